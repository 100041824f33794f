/- expr: what an argument that is a filter reads as. No condition. -/
import Derived.Test.YtmnmgbbdjpfonaaDoorExBase
import Derived.Test.YtmnmgbbdjpfonaaDoorOpenG2
import Derived.Test.YtmnmgbbdjpfonaaDoorNum
import Derived.KernelRfl
namespace Go.Proofs.YtmnmgbbdjpfonaaDoor
open Go.RowKit Go.WideShapes Go.ChangeShapes Go.Deep
set_option linter.unusedVariables false
section
variable {H : Type} {enc : TypeId × Value → H} {w : World} {base : Nat} {sp : Nat → Bool} {held : Bool}
theorem TrAt.le {ok : Nat → Prop} {w : World} {d e : Nat} {A : Option Addr} {t : Tr} (h : TrAt ok w d A t) (hle : d ≤ e) : TrAt ok w e A t := by
  induction hle with
  | refl => exact h
  | step _ ih => exact ih.deeper
/-- As deep as it is. -/
theorem list4 {cs : List Value} {x0 x1 x2 x3 : Value} (hs : cs.length = 4) (q0 : cs[0]? = some x0) (q1 : cs[1]? = some x1) (q2 : cs[2]? = some x2) (q3 : cs[3]? = some x3) : cs = [x0, x1, x2, x3] := by
  match cs, hs with
  | [a, b, c, d], _ =>
    simp at q0 q1 q2 q3
    subst q0 q1 q2 q3
    rfl
set_option maxRecDepth 100000 in
theorem trod_tree : ∀ (n : Nat) (cs : List Value) (y : DataW H × List MemPlace), DataW.trod enc Tryd.prog w base sp held n 24 cs = some y → Weighs Tryd.prog 24 y.1 →
    ∃ t A c, cs = (exC t A c).toList ∧ TrAt (fun _ => True) w n A t := by
  intro n
  induction n using Nat.strongRecOn with
  | _ n ih =>
    intro cs y h hw
    have hC : Tryd.prog.cellsOf 24 = 4 := by kernel_rfl
    obtain ⟨n2, hn2, hcl, hf⟩ := trod_fields Tryd.underlying24 (by kernel_rfl) (by kernel_rfl) h hw
    obtain ⟨x0, y0, q0, t0, w0⟩ := hf 0 _ rfl
    obtain ⟨x1, y1, q1, t1, w1⟩ := hf 1 _ rfl
    obtain ⟨x2, y2, q2, t2, w2⟩ := hf 2 _ rfl
    obtain ⟨x3, y3, q3, t3, w3⟩ := hf 3 _ rfl
    obtain ⟨n0, e0, z0, wf0⟩ := DataW.trod_int Tryd.underlying3 t0
    obtain ⟨s1, e1, z1, _⟩ := DataW.trod_string Tryd.underlying9 t1
    obtain ⟨s2, e2, z2, _⟩ := DataW.trod_string Tryd.underlying9 t2
    rw [z1] at w1
    rw [z2] at w2
    have b1 := weighs_str w1
    have b2 := weighs_str w2
    obtain rfl : x0 = .int .i64 n0 := by simpa using e0
    obtain rfl : x1 = .string s1 := by simpa using e1
    obtain rfl : x2 = .string s2 := by simpa using e2
    have wf0' := i64_bd wf0
    rcases DataW.trod_slice Tryd.underlying22 t3 with ⟨hcs, _⟩ | ⟨a, len, cap, elems, rest, n', hn', hcs, hx, hb, hlc, hm, hlen, hel, _, _⟩
    · obtain rfl : x3 = .slice none 0 0 := by simpa using hcs
      refine ⟨.mk n0 s1 s2 [], none, 0, ?_, ?_⟩
      · exact list4 (hcl.trans rfl) q0 q1 q2 q3
      · have hN : NodeOk (.mk n0 s1 s2 []) := ⟨wf0'.1, by show n0 < _; omega, by show s1.size ≤ _; omega, by show s2.size ≤ _; omega, Nat.zero_le _⟩
        cases n with
        | zero => exact ⟨hN, rfl⟩
        | succ n => exact ⟨hN, fun hp => absurd hp (by show ¬ 0 < 0; omega)⟩
    · obtain rfl : x3 = .slice (some a) len cap := by simpa using hcs
      have hw3 : Weighs Tryd.prog 22 (.slice (elems.map (·.1)) (rest.map (·.1))) := by
        have e : y3.1 = .slice (elems.map (·.1)) (rest.map (·.1)) := by rw [hx]
        rw [← e]; exact w3
      have hll := weighs_len Tryd.underlying22 hw3
      rw [reach_47] at hll
      have hB : 1 ≤ Tryd.prog.bytesOf 24 := by decide +kernel
      have hlb : len ≤ 140737488351232 := by
        simp only [List.length_map] at hll
        rw [hlen] at hll
        exact Nat.le_trans (Nat.le_trans (by omega : len ≤ (len + rest.length) * 1) (Nat.mul_le_mul_left _ hB)) hll
      have key : ∀ i, i < len → ∃ k : Tr × Option Addr × Nat, w.cell? (a.add (i * 4)) = some (.int .i64 k.1.op) ∧ w.cell? (a.add (i * 4 + 1)) = some (.string k.1.name) ∧ w.cell? (a.add (i * 4 + 2)) = some (.string k.1.value) ∧ w.cell? (a.add (i * 4 + 3)) = some (.slice k.2.1 k.1.kids.length k.2.2) ∧ TrAt (fun _ => True) w (n - 1) k.2.1 k.1 := by
        intro i hil
        have h1 := hel i hil
        have hie : i < elems.length := by omega
        rw [List.getElem?_eq_getElem hie, hC] at h1
        obtain ⟨cs', hc, ht⟩ := Option.bind_eq_some_iff.1 h1
        have hwe : Weighs Tryd.prog 24 elems[i].1 := weighs_elem Tryd.underlying22 hw3 (i := i) (by simp [List.getElem?_eq_getElem hie])
        obtain ⟨k, A', c', hcs', hT⟩ := ih n' (by omega) cs' elems[i] ht hwe
        obtain ⟨_, hcl2, hat⟩ := World.cells?_some hc
        subst hcs'
        refine ⟨(k, A', c'), ?_, ?_, ?_, ?_, hT.le (by omega)⟩
        · have := hat 0 (by omega); simpa [exC, Go.Deep.add_add] using this
        · have := hat 1 (by omega); simpa [exC, Go.Deep.add_add] using this
        · have := hat 2 (by omega); simpa [exC, Go.Deep.add_add] using this
        · have := hat 3 (by omega); simpa [exC, Go.Deep.add_add] using this
      have hex : ∃ F : Nat → Tr × Option Addr × Nat, ∀ i, i < len → w.cell? (a.add (i * 4)) = some (.int .i64 (F i).1.op) ∧ w.cell? (a.add (i * 4 + 1)) = some (.string (F i).1.name) ∧ w.cell? (a.add (i * 4 + 2)) = some (.string (F i).1.value) ∧ w.cell? (a.add (i * 4 + 3)) = some (.slice (F i).2.1 (F i).1.kids.length (F i).2.2) ∧ TrAt (fun _ => True) w (n - 1) (F i).2.1 (F i).1 := by
        refine ⟨fun i => if h : i < len then Classical.choose (key i h) else (.mk 0 ⟨#[]⟩ ⟨#[]⟩ [], none, 0), fun i hil => ?_⟩
        simp only [dif_pos hil]
        exact Classical.choose_spec (key i hil)
      obtain ⟨F, hF⟩ := hex
      refine ⟨.mk n0 s1 s2 ((List.range len).map fun i => (F i).1), some a, cap, ?_, ?_⟩
      · have hl2 : ((List.range len).map fun i => (F i).1).length = len := by simp
        unfold exC
        simp only [Tr.op, Tr.name, Tr.value, Tr.kids, hl2]
        exact list4 (hcl.trans rfl) q0 q1 q2 q3
      · have hN : NodeOk (.mk n0 s1 s2 ((List.range len).map fun i => (F i).1)) := ⟨wf0'.1, by show n0 < _; omega, by show s1.size ≤ _; omega, by show s2.size ≤ _; omega, by show ((List.range len).map fun i => (F i).1).length ≤ _; simp; omega⟩
        obtain ⟨m, rfl⟩ : ∃ m, n = m + 1 := ⟨n - 1, by omega⟩
        refine ⟨hN, fun hp => ?_⟩
        have hp' : 0 < len := by
          have : 0 < ((List.range len).map fun i => (F i).1).length := hp
          simpa using this
        obtain ⟨b, off, rfl, hbl⟩ := addr_plain (by have h0 := (hF 0 hp').1; rwa [Nat.zero_mul] at h0)
        refine ⟨b, off, rfl, trivial, hbl, fun j k hj => ?_⟩
        have hj2 : ((List.range len).map fun i => (F i).1)[j]? = some k := hj
        rw [List.getElem?_map, Option.map_eq_some_iff] at hj2
        obtain ⟨i, hi, rfl⟩ := hj2
        have hjl : j < len := by
          have := (List.getElem?_eq_some_iff.1 hi).1
          simpa using this
        have hij : i = j := by
          have := (List.getElem?_eq_some_iff.1 hi).2
          simpa using this.symm
        subst hij
        obtain ⟨p0, p1, p2, p3, pT⟩ := hF i hjl
        rw [add_at] at p0 p1 p2 p3
        exact ⟨(F i).2.1, (F i).2.2, p0, by rw [Nat.add_assoc]; exact p1, by rw [Nat.add_assoc]; exact p2, by rw [Nat.add_assoc]; exact p3, pT⟩
/-- An argument that is a filter. -/
theorem open_tree {r : Reach} {b0 : Nat} {v : Value} {d : DataW H} {p : List MemPlace} (hv : Value.okWide Tryd.prog w r b0 24 v) (h : DataW.Trod enc Tryd.prog w base sp held 24 v d p) (hw : Weighs Tryd.prog 24 d) :
    ∃ t A c n, v = exV t A c ∧ TrAt (fun _ => True) w n A t := by
  obtain ⟨cs, rfl, hsz⟩ := okWide_struct Tryd.underlying24 hv
  obtain ⟨fuel, hf⟩ := h
  obtain ⟨t, A, c, hcs, hT⟩ := trod_tree fuel _ _ hf hw
  refine ⟨t, A, c, fuel, ?_, hT⟩
  unfold exV
  congr 1
  exact Array.ext' hcs
end
end Go.Proofs.YtmnmgbbdjpfonaaDoor
