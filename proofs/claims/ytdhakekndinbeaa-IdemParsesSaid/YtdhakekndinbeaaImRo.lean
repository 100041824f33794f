/- idem: the document's Producers of the call's own, beside the program's. No condition but that they are not too many. -/
import Derived.Test.YtdhakekndinbeaaImRn
namespace Go.Proofs.Ytdhakekndinbeaa
open Go.RowKit
set_option linter.unusedVariables false
theorem rn_fits (G : List GH) (b : BN) (h : G.length ≤ 100000) : (noteG G b).length ≤ 100001 := by have := note_len G b; omega
theorem RO.note {W w : World} {p : Nat} {G : List GH} (h : RO W p G w) (b : BN) (B : Option Addr) (m d : Nat) (hl : G.length ≤ 100000) :
    Calls Try.prog 13 #[.pointer (some ⟨p, 0, none⟩), .agg #[.int .i64 b.base, .int .i64 b.span, .int .i64 b.prod, .int .i64 b.epoch, .int .i64 b.seq, .slice B m d]] w (fun en w' => en = .returned (.tuple #[]) ∧ RO W p (noteG G b) w' ∧ KeepO badR w w') := by
  obtain ⟨K, A, c, h1, rfl⟩ := h.is
  rw [List.length_map] at hl
  refine (rnote_c K A c W.heap.size p b B m d w h1 h.le h.bel.size hl h.ok).mono ?_
  rintro en w' ⟨rfl, K', A', c', k1, k2, k3, k4⟩
  exact ⟨rfl, ⟨⟨K', A', c', k1, k2⟩, h.le, h.ok.note b, h.bel.trans k4⟩, k3⟩
theorem RO.check {W w : World} {p : Nat} {G : List GH} (h : RO W p G w) (b : BN) (B : Option Addr) (m d : Nat) (hl : G.length ≤ 100000) {n e : Int} {t : Bool} (hc : chkG G b = (n, t, e)) :
    Calls Try.prog 11 #[.pointer (some ⟨p, 0, none⟩), .agg #[.int .i64 b.base, .int .i64 b.span, .int .i64 b.prod, .int .i64 b.epoch, .int .i64 b.seq, .slice B m d]] w (fun en w' => en = .returned (.tuple #[.int .i64 n, .bool t, .int .i64 e]) ∧ RO W p G w' ∧ Below w.heap.size w w') := by
  obtain ⟨K, A, c, h1, hG⟩ := h.is
  have hl2 : K.length ≤ 100000 := by rw [← hG, List.length_map] at hl; exact hl
  have := rcheck_c K A c W.heap.size p b B m d w h1 (by omega) (by rw [hG]; exact h.ok)
  rw [hG, hc] at this
  refine Calls.mono this ?_
  rintro en w' ⟨rfl, hb⟩
  exact ⟨rfl, h.later hb, hb⟩
theorem RO.epoch {W w : World} {p : Nat} {G : List GH} (h : RO W p G w) (n : Int) (hl : G.length ≤ 100000) {k : Int} (hk : epoG G n = k) :
    Calls Try.prog 15 #[.pointer (some ⟨p, 0, none⟩), .int .i64 n] w (fun en w' => en = .returned (.int .i64 k) ∧ w = w') := by
  obtain ⟨K, A, c, h1, hG⟩ := h.is
  have hl2 : K.length ≤ 100000 := by rw [← hG, List.length_map] at hl; exact hl
  have := repoch_c K A c W.heap.size p n w h1 (by omega)
  rwa [hG, hk] at this
theorem KeepO.heapR {w w' : World} {b : Nat} {t : TypeId} {cs : Array Value} (h : KeepO badR w w') (hb : Box w b t cs) (h1 : t ≠ 28) (h2 : t ≠ 73) : Box w' b t cs :=
  h b _ hb (fun hh => by
    rcases hh with e | e
    · exact h1 e
    · exact h2 e)
/-- What the document's Note writes is none of the program's. -/
theorem PO.keep {W w w' : World} {p : Nat} {G : List GH} (h : PO W p G w) (hk : KeepO badR w w') (hb : Below W.heap.size W w') : PO W p G w' := by
  obtain ⟨m, F, a1, a2, a3, a4, a5⟩ := h.is
  refine ⟨⟨m, F, ⟨hk.heapR a1.box (by decide) (by decide), ?_, fun y hy => ?_, a1.blks, a1.rise⟩, a2, a3, a4, a5⟩, h.ok, hb⟩
  · rcases a1.map with e | ⟨g, e, hm⟩
    · exact .inl e
    · refine .inr ⟨g, e, ?_⟩
      obtain ⟨es, clock, hb, Ft, hs, hD⟩ := hm
      exact ⟨es, clock, hk g _ hb (fun x => x), Ft, hs, hD⟩
  · have hy' := a1.all y hy
    exact ⟨⟨hk.heapR hy'.pr.box (by decide) (by decide), hy'.pr.f5, hy'.pr.c5⟩, hy'.ok, hy'.id⟩
/-- What the program's Note writes is none of the document's. -/
theorem RO.keep {W w w' : World} {p : Nat} {G : List GH} (h : RO W p G w) (hk : KeepO badP w w') (hb : Below W.heap.size W w') : RO W p G w' := by
  obtain ⟨K, A, c, h1, h2⟩ := h.is
  refine ⟨⟨K, A, c, ⟨hk.box h1.box (by decide) (by decide), ?_, fun x hx => ?_⟩, h2⟩, h.le, h.ok, hb⟩
  · refine ⟨h1.row.1, ?_⟩
    rcases h1.row.2 with h0 | ⟨g, cap, cur, hv, hg, hh, hr⟩
    · exact .inl h0
    · exact .inr ⟨g, cap, cur, hv, hg, hk g _ hh (fun x => by rcases x with e | e <;> exact absurd e (by decide)), hr⟩
  · rcases h1.sn x hx with h0 | ⟨g, o, c', cur, e1, e2, e3⟩
    · exact .inl h0
    · exact .inr ⟨g, o, c', cur, e1, hk g _ e2 (fun x => by rcases x with e | e <;> exact absurd e (by decide)), e3⟩
end Go.Proofs.Ytdhakekndinbeaa
