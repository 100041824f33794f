/- idem: Rebuild, the program's and the document's; the law IdemRebuilds walks to true. No condition. -/
import Derived.Test.YtdhakekndinbeaaImRp
namespace Go.Proofs.Ytdhakekndinbeaa
open Go.RowKit
set_option linter.unusedVariables false
/-- Those that the first k batches tell. -/
def rebG (L : List BX) (k : Nat) : List GH := (L.take k).foldl (fun G x => noteG G x.1) []
theorem reb_snoc {L : List BX} {k : Nat} {x : BX} (h : L[k]? = some x) : noteG (rebG L k) x.1 = rebG L (k + 1) := by
  unfold rebG
  rw [take_snoc' h, List.foldl_append]
  rfl
theorem reb_len (L : List BX) : ∀ k, k ≤ L.length → (rebG L k).length ≤ k
  | 0, _ => by simp [rebG]
  | k + 1, h => by
    obtain ⟨x, hx⟩ : ∃ x, L[k]? = some x := ⟨_, List.getElem?_eq_getElem (by omega)⟩
    rw [← reb_snoc hx]
    have := reb_len L k (by omega)
    have := note_len (rebG L k) x.1
    omega
theorem reb_all {L : List BX} {k : Nat} (h : L.length ≤ k) : rebG L k = rebG L L.length := by unfold rebG; rw [List.take_of_length_le h, List.take_length]
def GotB (W : World) (G : List GH) (en : Ending) (w' : World) : Prop := ∃ p, en = .returned (.pointer (some ⟨p, 0, none⟩)) ∧ PO W p G w'
def GotRB (W w : World) (G : List GH) (en : Ending) (w' : World) : Prop := ∃ p, en = .returned (.pointer (some ⟨p, 0, none⟩)) ∧ RO W p G w' ∧ KeepO badR w w'
set_option maxHeartbeats 16000000 in
set_option maxRecDepth 100000 in
theorem rebuild_c {W w : World} (L : List BX) (A : Option Addr) (c : Nat) (hL : BxsIn W A L) (hlen : L.length ≤ 1000) (hb : Below W.heap.size W w) :
    Calls Try.prog 21 #[.slice A L.length c] w (GotB W (rebG L L.length)) := by
  have cn := new_c w
  have HP := Lib.hid (PO.new hb)
  have HL := Lib.hid hL
  have hm : (0 : Int) ≤ (L.length : Int) := by omega
  unfold dp at cn
  clear hL hb
  go_enter Try.func21, Try.ntmps21
  go_wp2_with fail
  with_reducible refine cn.mono ?_
  rintro en w0 ⟨rfl, rfl⟩
  clear cn
  generalize (w.alloc (.cells #[.map none] 58)) = w0 at *
  obtain ⟨p, hp⟩ : ∃ p, w.heap.size = p := ⟨_, rfl⟩
  rw [hp]
  have HP2 : Hid (PO W p [] w0) := Lib.hid (by rw [← hp]; exact HP.out)
  clear hp HP
  go_wp2_with fail
  go_loopw [9] (fun i wr => ∃ k : Nat, i = .int .i64 k ∧ k ≤ L.length ∧ PO W p (rebG L k) wr) (fun i _ => L.length - (intOf i).toNat)
  case atStart => exact ⟨0, rfl, Nat.zero_le _, HP2.out⟩
  case round =>
    obtain ⟨k, rfl, hk, hI⟩ := hrel
    have HI := Lib.hid hI
    clear hI HP2
    by_cases hkl : k < L.length
    · obtain ⟨x, hx⟩ : ∃ x, L[k]? = some x := ⟨_, List.getElem?_eq_getElem hkl⟩
      obtain ⟨b, off, rfl, hbl, z0, z1, z2, z3, z4, z5⟩ := HL.out.at_ HI.out.bel hx
      have hK0 : (0 : Int) ≤ (k : Int) := by omega
      have hK1 : (k : Int) < (L.length : Int) := by omega
      have HB : Hid (PO W p (rebG L k) (wr.alloc (.cells #[.int .i64 x.1.base, .int .i64 x.1.span, .int .i64 x.1.prod, .int .i64 x.1.epoch, .int .i64 x.1.seq, .slice x.2.1 x.2.2.1 x.2.2.2] 31))) := Lib.hid (HI.out.later ((Below.refl _ _).alloc (Nat.le_refl _) _))
      have cnt := note_v HB.out x.1 x.2.1 x.2.2.1 x.2.2.2 (by have := reb_len L k hk; omega) (reb_snoc hx)
      clear hx HI HB
      go_wp2_with fail
      with_reducible refine cnt.mono ?_
      rintro en w1 ⟨rfl, h1, _⟩
      have H1 := Lib.hid h1
      clear h1 cnt z0 z1 z2 z3 z4 z5
      go_wp2_with fail
      go_roundw
      case rel => exact ⟨k + 1, by go_num, hkl, H1.out⟩
      case measure => simp [intOf]; omega
    · have hke : ¬ (k : Int) < (L.length : Int) := by omega
      have HE := Lib.hid (reb_all (L := L) (k := k) (by omega))
      clear hkl
      go_wp2_with fail
      go_ret
      exact ⟨p, rfl, by rw [← HE.out]; exact HI.out⟩
set_option maxHeartbeats 16000000 in
set_option maxRecDepth 100000 in
theorem rrebuild_c {W w : World} (L : List BX) (A : Option Addr) (c : Nat) (hL : BxsIn W A L) (hlen : L.length ≤ 1000) (hb : Below W.heap.size W w) :
    Calls Try.prog 22 #[.slice A L.length c] w (GotRB W w (rebG L L.length)) := by
  have HP := Lib.hid (RO.new hb)
  have HKP : Hid (KeepO badR w (w.alloc (.cells #[.slice none 0 0] 28))) := Lib.hid (KeepO.of_below ((Below.refl _ _).alloc (Nat.le_refl _) _))
  have HL := Lib.hid hL
  have hm : (0 : Int) ≤ (L.length : Int) := by omega
  clear hL hb
  go_enter Try.func22, Try.ntmps22
  go_wp2_with fail
  obtain ⟨p, hp⟩ : ∃ p, w.heap.size = p := ⟨_, rfl⟩
  rw [hp]
  have HP2 : Hid (RO W p [] (w.alloc (.cells #[.slice none 0 0] 28))) := Lib.hid (by rw [← hp]; exact HP.out)
  clear hp HP
  generalize (w.alloc (.cells #[.slice none 0 0] 28)) = w0 at *
  go_loopw [4] (fun i wr => ∃ k : Nat, i = .int .i64 k ∧ k ≤ L.length ∧ RO W p (rebG L k) wr ∧ KeepO badR w wr) (fun i _ => L.length - (intOf i).toNat)
  case atStart => exact ⟨0, rfl, Nat.zero_le _, HP2.out, HKP.out⟩
  case round =>
    obtain ⟨k, rfl, hk, hI, hK⟩ := hrel
    have HI := Lib.hid hI
    have HK := Lib.hid hK
    clear hI hK HP2
    by_cases hkl : k < L.length
    · obtain ⟨x, hx⟩ : ∃ x, L[k]? = some x := ⟨_, List.getElem?_eq_getElem hkl⟩
      obtain ⟨b, off, rfl, hbl, z0, z1, z2, z3, z4, z5⟩ := HL.out.at_ HI.out.bel hx
      have hK0 : (0 : Int) ≤ (k : Int) := by omega
      have hK1 : (k : Int) < (L.length : Int) := by omega
      have cnt := HI.out.note x.1 x.2.1 x.2.2.1 x.2.2.2 (by have := reb_len L k hk; omega)
      rw [reb_snoc hx] at cnt
      clear hx HI
      go_wp2_with fail
      with_reducible refine cnt.mono ?_
      rintro en w1 ⟨rfl, h1, h2⟩
      have H1 := Lib.hid h1
      have H2 := Lib.hid (HK.out.trans h2)
      clear h1 h2 cnt z0 z1 z2 z3 z4 z5
      go_wp2_with fail
      go_roundw
      case rel => exact ⟨k + 1, by go_num, hkl, H1.out, H2.out⟩
      case measure => simp [intOf]; omega
    · have hke : ¬ (k : Int) < (L.length : Int) := by omega
      have HE := Lib.hid (reb_all (L := L) (k := k) (by omega))
      clear hkl
      go_wp2_with fail
      go_ret
      exact ⟨p, rfl, by rw [← HE.out]; exact HI.out, HK.out⟩
/-- Two of the program's, side by side. -/
structure Tw2 (W : World) (p : Nat) (G : List GH) (q : Nat) (H : List GH) (w : World) : Prop where
  is : ∃ S T : Nat → Prop, PI p G w S ∧ PI q H w T ∧ (∀ k, S k → ¬ T k) ∧ (∀ k, S k → W.heap.size ≤ k ∧ k < w.heap.size) ∧ ∀ k, T k → W.heap.size ≤ k
  okG : GOk G
  okH : GOk H
  bel : Below W.heap.size W w
theorem Tw2.start {W w : World} {p : Nat} {G : List GH} (h : PO W p G w) : Tw2 W p G w.heap.size [] (w.alloc (.cells #[.map none] 58)) := by
  have hb : Below w.heap.size w (w.alloc (.cells #[.map none] 58)) := (Below.refl _ _).alloc (Nat.le_refl _) _
  have hs := h.bel.size
  refine ⟨⟨_, fun k => k = w.heap.size, h.is.tight.later hb, ⟨none, [], new_is w, rfl, rfl, (fun k hk => by cases hk), (fun y hy => by cases hy)⟩, fun k hk e => ?_, fun k hk => ⟨hk.1, Nat.lt_of_lt_of_le hk.2 hb.size⟩, fun k hk => ?_⟩, h.ok, GOk.nil, h.bel.trans (hb.mono hs)⟩
  · have := hk.2
    omega
  · omega
theorem Tw2.later {W w w' : World} {p q : Nat} {G H : List GH} (h : Tw2 W p G q H w) (hb : Below w.heap.size w w') : Tw2 W p G q H w' := by
  obtain ⟨S, T, h1, h2, h3, h4, h5⟩ := h.is
  exact ⟨⟨S, T, h1.later hb, h2.later hb, h3, fun k hk => ⟨(h4 k hk).1, Nat.lt_of_lt_of_le (h4 k hk).2 hb.size⟩, h5⟩, h.okG, h.okH, h.bel.trans (hb.mono h.bel.size)⟩
theorem Tw2.note {W w : World} {p q : Nat} {G H : List GH} (h : Tw2 W p G q H w) (b : BN) (A : Option Addr) (m c : Nat) (hl : H.length ≤ 100000) {H' : List GH} (hn : noteG H b = H') :
    Calls Try.prog 12 #[.pointer (some ⟨q, 0, none⟩), .agg #[.int .i64 b.base, .int .i64 b.span, .int .i64 b.prod, .int .i64 b.epoch, .int .i64 b.seq, .slice A m c]] w (fun en w' => en = .returned (.tuple #[]) ∧ Tw2 W p G q H' w') := by
  obtain ⟨S, T, h1, h2, h3, h4, h5⟩ := h.is
  have hs := h.bel.size
  refine (h2.note b A m c hl).mono ?_
  rintro en w' ⟨rfl, k1, k2⟩
  subst hn
  refine ⟨rfl, ⟨S, _, h1.off k2 h3, k1, fun k hk hx => ?_, fun k hk => ⟨(h4 k hk).1, Nat.lt_of_lt_of_le (h4 k hk).2 k2.size⟩, fun k hk => ?_⟩, h.okG, h.okH.note b, h.bel.trans (k2.below hs h5)⟩
  · rcases hx with hx | hx
    · exact h3 k hk hx
    · have := (h4 k hk).2; omega
  · rcases hk with hk | hk
    · exact h5 k hk
    · omega
theorem Tw2.split {W w : World} {p q : Nat} {G H : List GH} (h : Tw2 W p G q H w) : PO W p G w ∧ PO W q H w := by
  obtain ⟨S, T, ⟨m, F, a1, a2, a3, a4, a5⟩, ⟨m', F', b1, b2, b3, b4, b5⟩, h3, h4, h5⟩ := h.is
  exact ⟨⟨⟨m, F, a1, a2, (h4 _ a3).1, fun k hk => (h4 _ (a4 k hk)).1, fun y hy => (h4 _ (a5 y hy)).1⟩, h.okG, h.bel⟩, ⟨⟨m', F', b1, b2, h5 _ b3, fun k hk => h5 _ (b4 k hk), fun y hy => h5 _ (b5 y hy)⟩, h.okH, h.bel⟩⟩
set_option maxHeartbeats 16000000 in
set_option maxRecDepth 100000 in
theorem idemRebuilds_walk (L : List BX) (A : Option Addr) (c : Nat) (W : World) (hL : BxsIn W A L) (hlen : L.length ≤ 140737488351232) : Calls Try.prog 5 #[.slice A L.length c] W (Yes W) := by
  have cl := fun w => live_c w
  unfold Yes at cl
  have HL := Lib.hid hL
  by_cases h100 : 100 < L.length
  · clear hL
    go_enter Try.func5, Try.ntmps5
    go_wp2_with fail
    with_reducible refine (cl _).mono ?_
    rintro en w1 ⟨rfl, hb⟩
    have HB := Lib.hid hb
    clear hb
    go_wp2_with fail
    go_ret
    exact ⟨rfl, HB.out⟩
  · have h100' : L.length ≤ 100 := by omega
    have c1 := rebuild_c L A c hL (by omega) (Below.refl _ W)
    have cn := fun w => new_c w
    have crr := fun w (hb : Below W.heap.size W w) => rrebuild_c L A c HL.out (by omega) hb
    unfold dp at cn
    have hrl := reb_len L L.length (Nat.le_refl _)
    have HRL := Lib.hid hrl
    clear hL hlen h100 hrl
    go_enter Try.func5, Try.ntmps5
    go_wp2_with fail
    with_reducible refine c1.mono ?_
    rintro en w1 ⟨p, rfl, h1⟩
    have HT := Lib.hid (Tw2.start h1)
    clear h1 c1
    go_wp2_with fail
    with_reducible refine (cn _).mono ?_
    rintro en w2 ⟨rfl, rfl⟩
    clear cn
    generalize (w1.alloc (.cells #[.map none] 58)) = w2 at *
    obtain ⟨q, hq⟩ : ∃ q, w1.heap.size = q := ⟨_, rfl⟩
    rw [hq]
    have HT2 : Hid (Tw2 W p (rebG L L.length) q [] w2) := Lib.hid (by rw [← hq]; exact HT.out)
    clear hq HT
    go_wp2_with fail
    go_loopw [5] (fun i wr => ∃ k : Nat, i = .int .i64 k ∧ k ≤ L.length ∧ Tw2 W p (rebG L L.length) q (rebG L k) wr) (fun i _ => L.length - (intOf i).toNat)
    case atStart => exact ⟨0, rfl, Nat.zero_le _, HT2.out⟩
    case round =>
      obtain ⟨k, rfl, hk, hI⟩ := hrel
      have HI := Lib.hid hI
      clear hI HT2
      by_cases hkl : k < L.length
      · obtain ⟨x, hx⟩ : ∃ x, L[k]? = some x := ⟨_, List.getElem?_eq_getElem hkl⟩
        obtain ⟨b, off, rfl, hbl, z0, z1, z2, z3, z4, z5⟩ := HL.out.at_ HI.out.bel hx
        have hK0 : (0 : Int) ≤ (k : Int) := by omega
        have hK1 : (k : Int) < (L.length : Int) := by omega
        have cnt := HI.out.note x.1 x.2.1 x.2.2.1 x.2.2.2 (by have := reb_len L k hk; omega) (reb_snoc hx)
        clear hx HI crr
        go_wp2_with fail
        with_reducible refine cnt.mono ?_
        rintro en w3 ⟨rfl, h3⟩
        have H3 := Lib.hid h3
        clear h3 cnt z0 z1 z2 z3 z4 z5
        go_wp2_with fail
        go_roundw
        case rel => exact ⟨k + 1, by go_num, hkl, H3.out⟩
        case measure => simp [intOf]; omega
      · have hke : ¬ (k : Int) < (L.length : Int) := by omega
        have hE := reb_all (L := L) (k := k) (by omega)
        have HS : Hid (PO W p (rebG L L.length) wr ∧ PO W q (rebG L L.length) wr) := Lib.hid (by have := HI.out.split; rw [hE] at this; exact this)
        clear hE hkl HI
        go_wp2_with fail
        with_reducible refine (print_v HS.out.1 (by have := HRL.out; omega)).mono ?_
        rintro en w3 ⟨rfl, h3, hb3⟩
        have HS3 := Lib.hid (And.intro h3 (HS.out.2.later hb3))
        clear h3 hb3 HS
        go_wp2_with fail
        with_reducible refine (crr _ HS3.out.1.bel).mono ?_
        rintro en w4 ⟨r, rfl, h4, hk4⟩
        have HQ4 := Lib.hid (HS3.out.2.keep hk4 h4.bel)
        have HR4 := Lib.hid h4
        clear h4 hk4 HS3 crr
        go_wp2_with fail
        with_reducible refine (HR4.out.print (by have := HRL.out; omega)).mono ?_
        rintro en w5 ⟨rfl, h5, hb5⟩
        have HQ5 := Lib.hid (HQ4.out.later hb5)
        clear h5 hb5 HR4 HQ4
        go_wp2_with fail
        with_reducible refine (print_v HQ5.out (by have := HRL.out; omega)).mono ?_
        rintro en w6 ⟨rfl, h6, _⟩
        have HQ6 := Lib.hid h6
        clear h6 HQ5
        go_wp2_with fail
        with_reducible refine (cl _).mono ?_
        rintro en w7 ⟨rfl, hb7⟩
        have HQ7 := Lib.hid (HQ6.out.later hb7)
        clear hb7 HQ6
        go_wp2_with fail
        go_ret
        exact ⟨rfl, HQ7.out.bel⟩
end Go.Proofs.Ytdhakekndinbeaa
