/- Copy: what it leaves. No condition. -/
import Derived.Test.YtpdimmkacjilgaaDkApart
import Derived.Maps.RangeWalk
import Derived.Laws.IdiomRangeMap
namespace Go.Proofs.Ytpdimmkacjilgaa
open Go.RowKit Go.Maps Go.ChangeMaps Go.WideMaps Go.MapKept
set_option linter.unusedVariables false
attribute [local go_sem ↓] Go.wp_at_zero Go.wp_at_succ
theorem ranges_off {H : Type} {P : Program} {k : TypeId} {R : Value → Option (DataW H × List MemPlace)} {w w' : World} {b r n : Nat} {D : DataW H} {left : Lit → Bool} {cnt : Nat} {S : Nat → Prop} (h : w.ranges P k R b r n D left cnt) (ho : Off S w w') (hb : ¬ S b) (hr : ¬ S r) : w'.ranges P k R b r n D left cnt := by
  have h1 := h.owns.lt
  have h2 := h.lt
  obtain ⟨es, clock, since, seen, c0, hb', F, hs, hD, hr', rest⟩ := h
  exact ⟨es, clock, since, seen, c0, (ho.block b h1 hb).trans hb', F, hs, hD, (ho.block r h2 hr).trans hr', rest⟩
theorem insL_low {y : AF} {L : List AF} (h : ∀ x ∈ L, bytesBefore y.1 x.1 = true) : insL y L = y :: L := by
  cases L with
  | nil => rfl
  | cons x r => unfold insL; rw [if_pos (h x (by simp))]
/-- A file more of those that are no longer to come. -/
theorem ins_filter {P P' : AF → Bool} {y : AF} : ∀ {L : List AF}, L.Pairwise (fun a b => bytesBefore a.1 b.1 = true) → y ∈ L → P y = false → P' y = true → (∀ x ∈ L, x.1 ≠ y.1 → P' x = P x) → insL y (L.filter P) = L.filter P'
  | [], _, h, _, _, _ => by cases h
  | x :: r, hp, hm, h1, h2, h3 => by
    obtain ⟨p1, p2⟩ := List.pairwise_cons.1 hp
    rcases List.mem_cons.1 hm with rfl | hm'
    · have hr : r.filter P' = r.filter P := by
        refine List.filter_congr fun z hz => h3 z (by simp [hz]) fun e => ?_
        have := p1 z hz
        rw [e, bytes_irrefl] at this
        cases this
      rw [List.filter_cons, List.filter_cons, h1, h2, hr]
      simp only [Bool.false_eq_true, if_false, if_true]
      exact insL_low fun z hz => p1 z (List.mem_filter.1 hz).1
    · have hxy : x.1 ≠ y.1 := fun e => by
        have := p1 y hm'
        rw [e, bytes_irrefl] at this
        cases this
      have ih := ins_filter p2 hm' h1 h2 fun z hz => h3 z (by simp [hz])
      rw [List.filter_cons, List.filter_cons, h3 x (by simp) hxy]
      cases P x with
      | false => simpa using ih
      | true =>
        simp only [if_true]
        unfold insL
        rw [if_neg (by rw [bytes_asymm (p1 y hm')]; simp), ih]
theorem totL_filter (P : AF → Bool) (L : List AF) : totL (L.filter P) ≤ totL L := by
  induction L with
  | nil => exact Nat.le_refl _
  | cons x r ih =>
    rw [List.filter_cons]
    split
    · simp only [totL, List.map_cons, List.sum_cons] at ih ⊢; omega
    · simp only [totL, List.map_cons, List.sum_cons] at ih ⊢; omega
theorem totL_ins (y : AF) (L : List AF) : totL (insL y L) = totL L + y.2.1.length := by
  induction L with
  | nil => simp [totL, insL]
  | cons x r ih =>
    unfold insL
    split
    · simp only [totL, List.map_cons, List.sum_cons]; omega
    · simp only [totL, List.map_cons, List.sum_cons] at ih ⊢; omega
def leftP (left : Lit → Bool) : AF → Bool := fun x => !left (.string x.1)
/-- What lies in the copy while it is made. -/
def CpIs (W : World) (q r : Nat) (d : DS) (left : Lit → Bool) (w : World) : Prop :=
  ∃ c, Rep w q c ∧ c.room = d.room ∧ c.used = d.used ∧ c.fused = d.fused ∧ c.left = d.left ∧ absL c.F = (absL d.F).filter (leftP left) ∧ ∀ k, Foot q c k → W.heap.size ≤ k ∧ k ≠ r
/-- The copy of a file. -/
def copyF (f : DF) (b : Nat) (v : Value) : DF := ⟨f.name, b, v, f.bytes, f.safe⟩
theorem sortedL {w : World} {p : Nat} {d : DS} (h : Rep w p d) : (absL d.F).Pairwise fun a b => bytesBefore a.1 b.1 = true := by
  unfold absL
  rw [List.pairwise_map]
  exact h.sorted
/-- An entry that comes is a file's. -/
theorem entry_file {F : List DF} {kl : Lit} {c : Option Nat} {y : DataW Unit × List MemPlace} {x : ByteArray} (hkl : kl = .string x.data.toList) (hR : fileTok (match c with | none => .pointer none | some b => .pointer (some ⟨b, 0, none⟩)) = some y) (hat : ∀ zd, (mapD F).atKey kl zd = y.1) :
    ∃ f, fileOf F x.data.toList = some f ∧ c = some f.blk := by
  subst hkl
  cases hf : fileOf F x.data.toList with
  | none =>
    have h1 := hat (.lit (.bool true))
    have h2 := hat (.lit (.bool false))
    rw [mapD_at, hf] at h1 h2
    simp only at h1 h2
    rw [← h1] at h2
    cases h2
  | some f =>
    refine ⟨f, rfl, ?_⟩
    have h1 := hat (.lit (.bool true))
    rw [mapD_at, hf] at h1
    simp only at h1
    cases c with
    | none =>
      simp only [fileTok] at hR
      injection hR with hR
      rw [← hR] at h1
      injection h1 with h1
      injection h1 with _ h1
      omega
    | some b =>
      simp only [fileTok] at hR
      injection hR with hR
      rw [← hR] at h1
      injection h1 with h1
      injection h1 with _ h1
      congr 1
      omega
def mkP (c : Option Nat) : Value := match c with | none => .pointer none | some b => .pointer (some ⟨b, 0, none⟩)
theorem fileTok_shape (v : Value) (y : DataW Unit × List MemPlace) (h : fileTok v = some y) : ∃ c, v = mkP c := by
  unfold fileTok at h
  split at h
  · exact ⟨none, rfl⟩
  · rename_i b; exact ⟨some b, rfl⟩
  · cases h
theorem key_shape (key : Value) (kl : Lit) (h : keyOf Try.prog 9 key = some kl) : ∃ x : ByteArray, key = .string x := by
  have hu := Try.underlying9
  cases key <;> simp [keyOf, hu, mapKey] at h
  exact ⟨_, rfl⟩
theorem key_lit (x : ByteArray) (kl : Lit) (h : keyOf Try.prog 9 (.string x) = some kl) : kl = .string x.data.toList ∧ x.size ≤ maxLen := by
  have hu := Try.underlying9
  simp [keyOf, hu, mapKey] at h
  exact ⟨h.2.symm, h.1⟩
/-- The next file has been put. -/
theorem CpIs.put {W V w' : World} {q r : Nat} {p : Nat} {d : DS} {left : Lit → Bool} {f : DF} {b : Nat} {v : Value} {en : Ending} (hd : Rep W p d) (c : DS) (hR : Rep V q c) (h1 : c.room = d.room) (h2 : c.used = d.used) (h3 : c.fused = d.fused) (h4 : c.left = d.left) (h5 : absL c.F = (absL d.F).filter (leftP left)) (h6 : ∀ k, Foot q c k → W.heap.size ≤ k ∧ k ≠ r)
    (hf : f ∈ d.F) (hl : left (.string f.name) = true) (hfi : FileIn V (copyF f b v)) (hb : ∀ g ∈ c.F, g.blk ≠ b) (hr : ∀ g ∈ c.F, ∀ k, g.v.ownBlock = some k → v.ownBlock ≠ some k) (hbn : W.heap.size ≤ b ∧ b ≠ r) (hvn : ∀ k, v.ownBlock = some k → W.heap.size ≤ k ∧ k ≠ r) (hrV : r < V.heap.size) (hWV : W.heap.size ≤ V.heap.size)
    (hused : d.used ≥ (total d.F : Int)) (hp : Puts V q c (copyF f b v) en w') :
    en = .returned (.tuple #[]) ∧ CpIs W q r d (fun z => left z && !z.sameKey (.string f.name)) w' ∧ Off (fun k => Foot q c k) V w' := by
  have hin : insL (absF f) ((absL d.F).filter (leftP left)) = (absL d.F).filter (leftP fun z => left z && !z.sameKey (.string f.name)) := by
    refine ins_filter (sortedL hd) (List.mem_map.2 ⟨f, hf, rfl⟩) ?_ ?_ ?_
    · show (!left (.string f.name)) = false
      rw [hl]; rfl
    · show (!(left (.string f.name) && !(Lit.string f.name).sameKey (.string f.name))) = true
      have : (Lit.string f.name).sameKey (.string f.name) = true := by show (f.name == f.name) = true; simp
      rw [this]; simp
    · intro x hx hne
      show (!(left (.string x.1) && !(Lit.string x.1).sameKey (.string f.name))) = !left (.string x.1)
      have : (Lit.string x.1).sameKey (.string f.name) = false := by show (x.1 == f.name) = false; rw [beq_eq_false_iff_ne]; exact hne
      rw [this]; simp
  have hnew : fileOf c.F (copyF f b v).name = none := by
    cases hq : fileOf c.F (copyF f b v).name with
    | none => rfl
    | some g =>
      exfalso
      obtain ⟨g1, g2⟩ := file_in hq
      have g3 : absF g ∈ (absL d.F).filter (leftP left) := by rw [← h5]; exact List.mem_map.2 ⟨g, g1, rfl⟩
      have g4 := (List.mem_filter.1 g3).2
      have g5 : (absF g).1 = f.name := g2
      unfold leftP at g4
      rw [g5, hl] at g4
      cases g4
  have ht : (total c.F : Int) + (f.bytes.length : Int) ≤ c.used := by
    have e1 := totL_filter (leftP fun z => left z && !z.sameKey (.string f.name)) (absL d.F)
    rw [← hin, totL_ins, ← h5, abs_total, abs_total] at e1
    have e2 : (absF f).2.1.length = f.bytes.length := rfl
    rw [h2]
    omega
  obtain ⟨m, he, R2, o2, hm⟩ := hR.put hfi hnew hb hr ht hp
  refine ⟨he, ⟨_, R2, h1, h2, h3, h4, ?_, fun k hk => ?_⟩, o2.mono fun k _ hk => ?_⟩
  · show absL (insF (copyF f b v) c.F) = _
    rw [abs_ins, h5]
    exact hin
  · rcases hk with hk | hk | ⟨g, hg, hk⟩
    · exact h6 k (.inl hk)
    · have e : m = k := by injection hk
      subst e
      rcases hm with hm | hm
      · exact h6 m (.inr (.inl hm))
      · exact ⟨by omega, by omega⟩
    · have hg' : g ∈ insF (copyF f b v) c.F := hg
      rcases insF_mem.1 hg' with rfl | hg2
      · rcases hk with hk | hk
        · have e : k = b := hk
          rw [e]; exact hbn
        · exact hvn k hk
      · exact h6 k (.inr (.inr ⟨g, hg2, hk⟩))
  · rcases hk with hk | hk
    · exact .inl hk
    · exact .inr (.inl hk)
end Go.Proofs.Ytpdimmkacjilgaa
