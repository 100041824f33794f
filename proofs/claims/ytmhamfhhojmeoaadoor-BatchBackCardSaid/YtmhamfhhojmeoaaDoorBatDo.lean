/- Plain laws of a batch's body: what was read is what was written; what was written is read. No condition. -/
import Derived.Test.YtmhamfhhojmeoaaDoorBatScan
import Derived.Test.YtmhamfhhojmeoaaDoorBatChk
import Derived.Test.YtmhamfhhojmeoaaDoorRRd
import Derived.Test.YtmhamfhhojmeoaaDoorRecRDec
import Derived.Test.YtmhamfhhojmeoaaDoorBatSm2
import Derived.Deep.RegionHeld3
import Derived.Test.YtmhamfhhojmeoaaDoorBatEnc
import Derived.BigQuiet
import Derived.Deep.QuietTactic
namespace Go.Proofs.YtmhamfhhojmeoaaDoor
open Go.RowKit
set_option linter.unusedVariables false
def bodyR (b : BN) (R : List Rec) : List UInt8 := frontL b R.length ++ R.flatMap encL
theorem bodyL_R (b : BN) (L : List RX) : bodyL b L = bodyR b (L.map (·.1)) := by
  unfold bodyL bodyR encsL
  rw [List.length_map, List.flatMap_map]
theorem nrd_span {s : ByteArray} : ∀ k, (nrd s k).2.2 = 0 → Span s 0 (nrd s k).2.1 (putsL (nrd s k).1)
  | 0, _ => Span.nil (Int.le_refl _) (by omega)
  | k + 1, h => by
    unfold nrd at h ⊢
    by_cases h1 : (nrd s k).2.2 ≠ 0
    · rw [if_pos h1] at h; exact absurd h h1
    · rw [if_neg h1] at h ⊢
      have ih := nrd_span k (by simpa using h1)
      have g := (get_ok h).1
      simp only
      rw [putsL_snoc]
      exact ih.join g
theorem rrd_span {s : ByteArray} {q : Int} (h0 : 0 ≤ q) (h1 : q ≤ s.size) : ∀ k, (rrd s q k).2.2 = 0 → Span s q (rrd s q k).2.1 ((rrd s q k).1.flatMap encL)
  | 0, _ => Span.nil h0 h1
  | k + 1, h => by
    unfold rrd at h ⊢
    by_cases h2 : (rrd s q k).2.2 ≠ 0
    · rw [if_pos h2] at h; exact absurd h h2
    · rw [if_neg h2] at h ⊢
      by_cases h3 : (decR s (rrd s q k).2.1).2.2 ≠ 0
      · rw [if_pos h3] at h; exact absurd h h3
      · rw [if_neg h3]
        have ih := rrd_span h0 h1 k (by simpa using h2)
        have g := (dec_ok (by simpa using h3)).2
        simp only [List.flatMap_append, List.flatMap_cons, List.flatMap_nil, List.append_nil]
        exact ih.join g
theorem nrd_nums {s : ByteArray} (h : (nrd s 6).2.2 = 0) (hc : 0 ≤ cntN s) : (nrd s 6).1 = numsI (nbn (nrd s 6).1) (cntN s).toNat := by
  have hl := nrd_len 6 h
  unfold cntN at *
  generalize (nrd s 6).1 = l at *
  match l, hl with
  | [a, b, c, d, e, f], _ =>
    have hf : 0 ≤ f := hc
    have : ((f.toNat : Nat) : Int) = f := by omega
    simp [numsI, nbn, this]
theorem unp_body {s : ByteArray} (h0 : (nrd s 6).2.2 = 0) (h1 : 0 ≤ cntN s) (h2 : (recN s).2.2 = 0) (h3 : (recN s).2.1 = s.size) : s.data.toList = bodyR (nbn (nrd s 6).1) (recN s).1 := by
  have a := nrd_span 6 h0
  have b := rrd_span (Int.le_trans a.1 a.2.1) a.2.2.1 _ h2
  have hn := rrd_len _ h2
  have c := a.join b
  have d := c.2.2.2
  change s.data.toList.drop (0 : Int).toNat = (putsL (nrd s 6).1 ++ (recN s).1.flatMap encL) ++ s.data.toList.drop ((recN s).2.1).toNat at d
  rw [h3, Int.toNat_natCast, show s.data.toList.drop s.size = [] from List.drop_eq_nil_iff.2 (Nat.le_refl _), List.append_nil] at d
  rw [show s.data.toList = s.data.toList.drop (0 : Int).toNat from rfl, d, nrd_nums h0 h1, putsL_all]
  unfold bodyR
  have e : (recN s).1.length = (cntN s).toNat := hn
  rw [e]
  congr 1
theorem rrd_all {s : ByteArray} {L : List RX} (h : L.map (·.1) = (recN s).1) : (L.all fun x => okRec x.1) = true := by
  rw [List.all_eq_true]
  intro x hx
  have : x.1 ∈ (recN s).1 := by rw [← h]; exact List.mem_map_of_mem hx
  exact rrd_ok _ _ this
/-- What the document's Check says of a batch that was read to its body's end. -/
theorem inner_last {s : ByteArray} {L : List RX} (hs : s.size ≤ 60000) (h0 : (nrd s 6).2.2 = 0) (h1 : 0 ≤ cntN s) (hc : cntN s ≤ 50) (h2 : (recN s).2.2 = 0) (h3 : (recN s).2.1 = s.size) (hL : L.map (·.1) = (recN s).1) :
    batB (nbn (nrd s 6).1) L = unpB s := by
  have hb := unp_body h0 h1 h2 h3
  have hn : (recN s).1.length = (cntN s).toNat := rrd_len _ h2
  have hl : L.length = (recN s).1.length := by rw [← hL, List.length_map]
  have hz : (bodyL (nbn (nrd s 6).1) L).length = s.size := by
    rw [bodyL_R, hL, ← hb]
    rfl
  unfold batB unpB
  rw [goodL_eq, rrd_all hL, placedL_map, hL, hz, decide_eq_true (by omega : L.length ≤ 50), decide_eq_true hs, decide_eq_true h0, decide_eq_true (⟨h1, hc⟩ : 0 ≤ cntN s ∧ cntN s ≤ 50), decide_eq_true h2, decide_eq_true h3]
  simp
/- What was written is read. -/
theorem putsL_split (ns : List Int) (k : Nat) : putsL ns = putsL (ns.take k) ++ putsL (ns.drop k) := by
  unfold putsL
  rw [← List.flatMap_append, List.take_append_drop]
theorem rest_of {s : ByteArray} {a l : List UInt8} (h : s.data.toList = a ++ l) : Rest s a.length l := by
  have hl := congrArg List.length h
  have hz : s.data.toList.length = s.size := rfl
  rw [List.length_append, hz] at hl
  refine ⟨by omega, by omega, ?_⟩
  rw [h, Int.toNat_natCast, List.drop_left]
theorem nrd_puts {s : ByteArray} {ns : List Int} {l : List UInt8} (h : s.data.toList = putsL ns ++ l) (hr : ∀ x ∈ ns, -9223372036854775808 ≤ x ∧ x ≤ 9223372036854775807) : ∀ k, k ≤ ns.length → nrd s k = (ns.take k, ((putsL (ns.take k)).length : Int), 0)
  | 0, _ => rfl
  | k + 1, hk => by
    have ih := nrd_puts h hr k (by omega)
    have hkk : k < ns.length := hk
    have hs : ns.take (k + 1) = ns.take k ++ [ns[k]] := List.take_succ_eq_append_getElem hkk
    have e : s.data.toList = putsL (ns.take k) ++ (putL ns[k] ++ (putsL (ns.drop (k + 1)) ++ l)) := by
      rw [h, putsL_split ns (k + 1), hs, putsL_snoc]
      simp only [List.append_assoc]
    have g := get_rest (rest_of e) (hr _ (List.getElem_mem hkk)).1 (hr _ (List.getElem_mem hkk)).2
    unfold nrd
    rw [ih]
    simp only
    rw [if_neg (by simp), g, hs, putsL_snoc, List.length_append]
    simp
theorem rrd_encs {s : ByteArray} {q : Int} {R : List Rec} {l : List UInt8} (h : Rest s q (R.flatMap encL ++ l)) (hr : ∀ x ∈ R, okRec x = true) : ∀ k, k ≤ R.length → rrd s q k = (R.take k, q + (((R.take k).flatMap encL).length : Int), 0) ∧ Rest s (q + (((R.take k).flatMap encL).length : Int)) ((R.drop k).flatMap encL ++ l)
  | 0, _ => ⟨by simp [rrd], by simpa using h⟩
  | k + 1, hk => by
    obtain ⟨ih, ir⟩ := rrd_encs h hr k (by omega)
    have hkk : k < R.length := hk
    have hs : R.take (k + 1) = R.take k ++ [R[k]] := List.take_succ_eq_append_getElem hkk
    have hd : R.drop k = R[k] :: R.drop (k + 1) := List.drop_eq_getElem_cons hkk
    rw [hd, List.flatMap_cons, List.append_assoc] at ir
    have g := dec_enc (hr _ (List.getElem_mem hkk)) ir
    have hn := ir.next
    have hq : q + (((R.take (k + 1)).flatMap encL).length : Int) = q + (((R.take k).flatMap encL).length : Int) + ((encL R[k]).length : Int) := by
      rw [hs, List.flatMap_append, List.length_append]
      simp
      omega
    refine ⟨?_, by rw [hq]; exact hn⟩
    unfold rrd
    rw [ih]
    simp only
    rw [if_neg (by simp), g]
    simp only
    rw [if_neg (by simp), hs, ← hs, hq]
theorem numsI_range {b : BN} {n : Nat} (h : numB b = true) (hn : n ≤ 50) : ∀ x ∈ numsI b n, -9223372036854775808 ≤ x ∧ x ≤ 9223372036854775807 := by
  obtain ⟨r1, r2, r3, r4, r5⟩ := numB_range h
  intro x hx
  unfold numsI at hx
  simp at hx
  rcases hx with rfl | rfl | rfl | rfl | rfl | rfl <;> omega
theorem unp_back {b : BN} {L : List RX} (h : batB b L = true) : unpB (bodyB b L) = true ∧ nbn (nrd (bodyB b L) 6).1 = b ∧ (recN (bodyB b L)).1 = L.map (·.1) := by
  have hsz := batB_size h
  have h' := h
  unfold batB at h'
  simp only [Bool.and_eq_true, decide_eq_true_eq] at h'
  obtain ⟨hn, h50, hg, _⟩ := h'
  rw [goodL_eq] at hg
  simp only [Bool.and_eq_true] at hg
  have hall : ∀ x ∈ L.map (·.1), okRec x = true := by
    intro x hx
    obtain ⟨y, hy, rfl⟩ := List.mem_map.1 hx
    exact List.all_eq_true.1 hg.2 y hy
  have e : (bodyB b L).data.toList = putsL (numsI b L.length) ++ (L.map (·.1)).flatMap encL := by
    show (bodyL b L).toArray.toList = _
    rw [bodyL_R, putsL_all]
    simp [bodyR]
  have hk := nrd_puts e (numsI_range hn h50) 6 (by simp [numsI])
  rw [show (numsI b L.length).take 6 = numsI b L.length from rfl] at hk
  have hcn : cntN (bodyB b L) = L.length := by unfold cntN; rw [hk]; rfl
  have hR := rest_of e
  have hrr := rrd_encs (l := []) (by simpa using hR) hall L.length (by simp)
  rw [List.take_of_length_le (by simp)] at hrr
  have hrn : recN (bodyB b L) = (L.map (·.1), ((putsL (numsI b L.length)).length : Int) + (((L.map (·.1)).flatMap encL).length : Int), 0) := by
    unfold recN
    rw [hcn, Int.toNat_natCast, hk]
    exact hrr.1
  have hz : ((putsL (numsI b L.length)).length : Int) + (((L.map (·.1)).flatMap encL).length : Int) = (bodyB b L).size := by
    have := congrArg List.length e
    rw [List.length_append] at this
    have hz2 : (bodyB b L).data.toList.length = (bodyB b L).size := rfl
    omega
  have hnb : nbn (nrd (bodyB b L) 6).1 = b := by rw [hk]; rfl
  refine ⟨?_, hnb, by rw [hrn]⟩
  have hi := inner_last (s := bodyB b L) (L := L) hsz (by rw [hk]) (by rw [hcn]; omega) (by rw [hcn]; omega) (by rw [hrn]) (by rw [hrn]; exact hz) (by rw [hrn])
  rw [hnb, h] at hi
  exact hi.symm
end Go.Proofs.YtmhamfhhojmeoaaDoor
/- The document's inner: the batch of a body. Condition: the body has at most 60000 bytes. -/
namespace Go.Proofs.YtmhamfhhojmeoaaDoor
open Go.RowKit
set_option linter.unusedVariables false
/-- The document's reader's k-th number, the place behind it, an error. -/
def rn (s : ByteArray) : Nat → Int × Int × Int
  | 0 => rdN s 0 0
  | k + 1 => rdN s (rn s k).2.1 (rn s k).2.2
theorem rn_nrd {s : ByteArray} : ∀ k, (nrd s (k + 1)).2.2 = (rn s k).2.2 ∧ ((rn s k).2.2 = 0 → (nrd s (k + 1)).2.1 = (rn s k).2.1 ∧ (nrd s (k + 1)).1 = (List.range (k + 1)).map (fun i => (rn s i).1))
  | 0 => by
    have e : rn s 0 = getG s 0 := by show rdN s 0 0 = _; unfold rdN; rw [if_pos rfl]
    rw [e]
    show (if (nrd s 0).2.2 ≠ 0 then nrd s 0 else ((nrd s 0).1 ++ [(getG s (nrd s 0).2.1).1], (getG s (nrd s 0).2.1).2.1, (getG s (nrd s 0).2.1).2.2)).2.2 = _ ∧ _
    rw [if_neg (by simp [nrd])]
    refine ⟨rfl, fun _ => ⟨?_, ?_⟩⟩
    · simp [nrd]
    · simp [nrd, e]
  | k + 1 => by
    obtain ⟨h1, h2⟩ := rn_nrd (s := s) k
    by_cases he : (rn s k).2.2 = 0
    · obtain ⟨h3, h4⟩ := h2 he
      have e : rn s (k + 1) = getG s (rn s k).2.1 := by show rdN s _ _ = _; unfold rdN; rw [if_pos he]
      have e2 : nrd s (k + 1 + 1) = ((nrd s (k + 1)).1 ++ [(getG s (nrd s (k + 1)).2.1).1], (getG s (nrd s (k + 1)).2.1).2.1, (getG s (nrd s (k + 1)).2.1).2.2) := by
        show (if (nrd s (k + 1)).2.2 ≠ 0 then _ else _) = _
        rw [if_neg (by rw [h1]; simpa using he)]
      rw [e2, e, h3]
      refine ⟨rfl, fun _ => ⟨rfl, ?_⟩⟩
      rw [List.range_succ, List.map_append, h4]
      simp [e]
    · have e : rn s (k + 1) = (0, (rn s k).2.1, (rn s k).2.2) := rdN_err he
      have e2 : nrd s (k + 1 + 1) = nrd s (k + 1) := by
        show (if (nrd s (k + 1)).2.2 ≠ 0 then _ else _) = _
        rw [if_pos (by rw [h1]; exact he)]
      rw [e2, e]
      exact ⟨h1, fun h => absurd h he⟩
theorem rn_bad {s : ByteArray} (h : (rn s 5).2.2 ≠ 0) : unpB s = false := by
  unfold unpB
  rw [(rn_nrd (s := s) 5).1, decide_eq_false h]
  rfl
theorem rn_ok {s : ByteArray} (h : (rn s 5).2.2 = 0) : (nrd s 6).2.2 = 0 ∧ (nrd s 6).2.1 = (rn s 5).2.1 ∧ nbn (nrd s 6).1 = ⟨(rn s 0).1, (rn s 1).1, (rn s 2).1, (rn s 3).1, (rn s 4).1⟩ ∧ cntN s = (rn s 5).1 := by
  obtain ⟨h1, h2⟩ := rn_nrd (s := s) 5
  obtain ⟨h3, h4⟩ := h2 h
  refine ⟨h1.trans h, h3, ?_, ?_⟩
  · rw [h4]; rfl
  · unfold cntN; rw [h4]; rfl
/-- The reader, the batch that is being filled, and the result's block, all of the call's own. -/
structure InAt (W : World) (s : ByteArray) (q e : Int) (cs : Array Value) (w : World) : Prop where
  rd : Box w (W.heap.size + 1) 90 (rdC s q e)
  bx : Box w (W.heap.size + 1 + 1) 24 cs
  rs : Box w W.heap.size 24 zeroB
  bel : Below W.heap.size W w
section
variable {W w w' : World} {s : ByteArray} {q e q' e' : Int} {cs : Array Value}
theorem InAt.moved (h : InAt W s q e cs w) (hb : Box w' (W.heap.size + 1) 90 (rdC s q' e')) (ho : Off (· = W.heap.size + 1) w w') : InAt W s q' e' cs w' :=
  ⟨hb, h.bx.off ho (by omega), h.rs.off ho (by omega), h.bel.trans (ho.below h.bel.size (fun k hk => by omega))⟩
theorem InAt.set (h : InAt W s q e cs w) (i : Nat) (u : Value) : InAt W s q e (cs.setIfInBounds i u) (w.setCell ⟨W.heap.size + 1 + 1, i, none⟩ u) :=
  ⟨h.rd.far (by show W.heap.size + 1 ≠ W.heap.size + 1 + 1; omega) _, h.bx.set i u, h.rs.far (by show W.heap.size ≠ W.heap.size + 1 + 1; omega) _, h.bel.setCell (by show W.heap.size ≤ W.heap.size + 1 + 1; omega) _⟩
theorem InAt.later (h : InAt W s q e cs w) (hb : Below w.heap.size w w') : InAt W s q e cs w' :=
  ⟨h.rd.later hb, h.bx.later hb, h.rs.later hb, h.bel.trans (hb.mono h.bel.size)⟩
theorem InAt.grown {v : Value} {n : Nat} {xs : List Value} (h : InAt W s q e cs w) (ho : w.ownsRow W.heap.size 49 7 v n xs) (hg : w.grownBy w' v.ownBlock) : InAt W s q e cs w' := by
  have k : ∀ {b t : Nat} {cs : Array Value}, Box w b t cs → t ≠ 49 → Box w' b t cs := fun hb hne => (hg.block _ hb.lt (fun e => own_ne ho hb hne _ e.symm rfl)).trans hb
  exact ⟨k h.rd (by decide), k h.bx (by decide), k h.rs (by decide), h.bel.grown hg h.bel.size (fun j e => (ho.lt j e).1)⟩
end
theorem InAt.start (W : World) (s : ByteArray) : InAt W s 0 0 zeroB (((W.alloc (.cells zeroB 24)).alloc (.cells (rdC s 0 0) 90)).alloc (.cells zeroB 24)) := by
  refine ⟨?_, ?_, (((Box.new W _ _).alloc _).alloc _), (((Below.refl _ _).alloc (Nat.le_refl _) _).alloc (by simp) _).alloc (by simp; omega) _⟩
  · have h := (Box.new (W.alloc (.cells zeroB 24)) 90 (rdC s 0 0)).alloc (.cells zeroB 24)
    simpa using h
  · have h := Box.new ((W.alloc (.cells zeroB 24)).alloc (.cells (rdC s 0 0) 90)) 24 zeroB
    simpa using h
theorem inn_result {w : World} (g : Nat) {v0 v1 v2 v3 v4 v5 x : Value} (h : Box w g 24 #[v0, v1, v2, v3, v4, v5]) (tmps : Array Value) (ht : (tmps[2]?).getD undef = .pointer (some ⟨g, 0, none⟩)) (h3 : (tmps[3]?).getD undef = x) :
    (results Tryd.f35 tmps).run Tryd.prog w = .ok (.tuple #[.agg #[v0, v1, v2, v3, v4, v5], x]) w := by
  have c0 := (h.cell 0).trans (show _ = some v0 from rfl)
  have c1 := (h.cell 1).trans (show _ = some v1 from rfl)
  have c2 := (h.cell 2).trans (show _ = some v2 from rfl)
  have c3 := (h.cell 3).trans (show _ = some v3 from rfl)
  have c4 := (h.cell 4).trans (show _ = some v4 from rfl)
  have c5 := (h.cell 5).trans (show _ = some v5 from rfl)
  simp [results, Tryd.results35, go_sem, ht, h3, c0, c1, c2, c3, c4, c5]
/-- What was read so far, ready to be handed back. -/
structure InS (W : World) (b : BN) (A : Option Addr) (c : Nat) (L : List RX) (w : World) : Prop where
  res : ∃ v0 v1 v2 v3 v4 v5, Box w W.heap.size 24 #[v0, v1, v2, v3, v4, v5]
  bat : Box w (W.heap.size + 1 + 1) 24 (bnC b (.slice A L.length c))
  row : RowR w W.heap.size (.slice A L.length c) L
  rin : RsIn w A L
  bel : Below W.heap.size W w
section
variable {W w w' : World} {base span prod epoch seq : Int} {A : Option Addr} {c : Nat} {L : List RX}
theorem InS.cells (h : InS W ⟨base, span, prod, epoch, seq⟩ A c L w) : (fun w => w.cell? ⟨W.heap.size + 1 + 1, 0, none⟩ = some (.int .i64 base) ∧ w.cell? ⟨W.heap.size + 1 + 1, 1, none⟩ = some (.int .i64 span) ∧ w.cell? ⟨W.heap.size + 1 + 1, 2, none⟩ = some (.int .i64 prod) ∧ w.cell? ⟨W.heap.size + 1 + 1, 3, none⟩ = some (.int .i64 epoch) ∧ w.cell? ⟨W.heap.size + 1 + 1, 4, none⟩ = some (.int .i64 seq) ∧ w.cell? ⟨W.heap.size + 1 + 1, 5, none⟩ = some (.slice A L.length c) ∧ InS W ⟨base, span, prod, epoch, seq⟩ A c L w) w :=
  ⟨by rw [h.bat.cell]; rfl, by rw [h.bat.cell]; rfl, by rw [h.bat.cell]; rfl, by rw [h.bat.cell]; rfl, by rw [h.bat.cell]; rfl, by rw [h.bat.cell]; rfl, h⟩
theorem InS.later (h : InS W ⟨base, span, prod, epoch, seq⟩ A c L w) (hb : Below w.heap.size w w') : InS W ⟨base, span, prod, epoch, seq⟩ A c L w' := by
  obtain ⟨v0, v1, v2, v3, v4, v5, hr⟩ := h.res
  exact ⟨⟨v0, v1, v2, v3, v4, v5, hr.later hb⟩, h.bat.later hb, h.row.later hb, h.rin.below hb, h.bel.trans (hb.mono h.bel.size)⟩
theorem in_later (h : (fun w => w.cell? ⟨W.heap.size + 1 + 1, 0, none⟩ = some (.int .i64 base) ∧ w.cell? ⟨W.heap.size + 1 + 1, 1, none⟩ = some (.int .i64 span) ∧ w.cell? ⟨W.heap.size + 1 + 1, 2, none⟩ = some (.int .i64 prod) ∧ w.cell? ⟨W.heap.size + 1 + 1, 3, none⟩ = some (.int .i64 epoch) ∧ w.cell? ⟨W.heap.size + 1 + 1, 4, none⟩ = some (.int .i64 seq) ∧ w.cell? ⟨W.heap.size + 1 + 1, 5, none⟩ = some (.slice A L.length c) ∧ InS W ⟨base, span, prod, epoch, seq⟩ A c L w) w) (hb : Below w.heap.size w w') : (fun w => w.cell? ⟨W.heap.size + 1 + 1, 0, none⟩ = some (.int .i64 base) ∧ w.cell? ⟨W.heap.size + 1 + 1, 1, none⟩ = some (.int .i64 span) ∧ w.cell? ⟨W.heap.size + 1 + 1, 2, none⟩ = some (.int .i64 prod) ∧ w.cell? ⟨W.heap.size + 1 + 1, 3, none⟩ = some (.int .i64 epoch) ∧ w.cell? ⟨W.heap.size + 1 + 1, 4, none⟩ = some (.int .i64 seq) ∧ w.cell? ⟨W.heap.size + 1 + 1, 5, none⟩ = some (.slice A L.length c) ∧ InS W ⟨base, span, prod, epoch, seq⟩ A c L w) w' := (h.2.2.2.2.2.2.later hb).cells
theorem in_set (h : (fun w => w.cell? ⟨W.heap.size + 1 + 1, 0, none⟩ = some (.int .i64 base) ∧ w.cell? ⟨W.heap.size + 1 + 1, 1, none⟩ = some (.int .i64 span) ∧ w.cell? ⟨W.heap.size + 1 + 1, 2, none⟩ = some (.int .i64 prod) ∧ w.cell? ⟨W.heap.size + 1 + 1, 3, none⟩ = some (.int .i64 epoch) ∧ w.cell? ⟨W.heap.size + 1 + 1, 4, none⟩ = some (.int .i64 seq) ∧ w.cell? ⟨W.heap.size + 1 + 1, 5, none⟩ = some (.slice A L.length c) ∧ InS W ⟨base, span, prod, epoch, seq⟩ A c L w) w) (v0 v1 v2 v3 v4 v5 : Value) : (fun w => w.cell? ⟨W.heap.size + 1 + 1, 0, none⟩ = some (.int .i64 base) ∧ w.cell? ⟨W.heap.size + 1 + 1, 1, none⟩ = some (.int .i64 span) ∧ w.cell? ⟨W.heap.size + 1 + 1, 2, none⟩ = some (.int .i64 prod) ∧ w.cell? ⟨W.heap.size + 1 + 1, 3, none⟩ = some (.int .i64 epoch) ∧ w.cell? ⟨W.heap.size + 1 + 1, 4, none⟩ = some (.int .i64 seq) ∧ w.cell? ⟨W.heap.size + 1 + 1, 5, none⟩ = some (.slice A L.length c) ∧ InS W ⟨base, span, prod, epoch, seq⟩ A c L w) (bset w W.heap.size v0 v1 v2 v3 v4 v5) := by
  have hh := h.2.2.2.2.2.2
  obtain ⟨r0, r1, r2, r3, r4, r5, hr⟩ := hh.res
  have ho := bset_off w W.heap.size v0 v1 v2 v3 v4 v5
  refine InS.cells ⟨⟨_, _, _, _, _, _, bset_box hr _ _ _ _ _ _⟩, hh.bat.off ho (by omega), ⟨own_off hh.row.row ho (fun k e => own_ne hh.row.row hr (by decide) k e), fun x hx => own_off (hh.row.heads x hx) ho (fun k e => own_ne (hh.row.heads x hx) hr (by decide) k e)⟩, ?_, below_off hh.bel ho (Nat.le_refl _)⟩
  exact hh.rin.off ho (row_ne hh.row.row hr (by decide)) (fun x hx => row_ne (hh.row.heads x hx) hr (by decide))
end
set_option maxHeartbeats 16000000 in
set_option maxRecDepth 100000 in
theorem inner_c (s : ByteArray) (W : World) (hs : s.size ≤ 60000) : Calls Tryd.prog 35 #[.string s] W (GotUn W (unpB s) (nbn (nrd s 6).1) (recN s).1) := by
  have n0 : ∀ b w, Box w b 90 (rdC s 0 0) → Calls _ _ _ w (Moved w b 90 (.int .i64 (rn s 0).1) s (rn s 0).2.1 (rn s 0).2.2) := fun b w hx => rrdn_c s _ _ b w (by omega) hx
  have n1 : ∀ b w, Box w b 90 (rdC s (rn s 0).2.1 (rn s 0).2.2) → Calls _ _ _ w (Moved w b 90 (.int .i64 (rn s 1).1) s (rn s 1).2.1 (rn s 1).2.2) := fun b w hx => rrdn_c s _ _ b w (by omega) hx
  have n2 : ∀ b w, Box w b 90 (rdC s (rn s 1).2.1 (rn s 1).2.2) → Calls _ _ _ w (Moved w b 90 (.int .i64 (rn s 2).1) s (rn s 2).2.1 (rn s 2).2.2) := fun b w hx => rrdn_c s _ _ b w (by omega) hx
  have n3 : ∀ b w, Box w b 90 (rdC s (rn s 2).2.1 (rn s 2).2.2) → Calls _ _ _ w (Moved w b 90 (.int .i64 (rn s 3).1) s (rn s 3).2.1 (rn s 3).2.2) := fun b w hx => rrdn_c s _ _ b w (by omega) hx
  have n4 : ∀ b w, Box w b 90 (rdC s (rn s 3).2.1 (rn s 3).2.2) → Calls _ _ _ w (Moved w b 90 (.int .i64 (rn s 4).1) s (rn s 4).2.1 (rn s 4).2.2) := fun b w hx => rrdn_c s _ _ b w (by omega) hx
  have n5 : ∀ b w, Box w b 90 (rdC s (rn s 4).2.1 (rn s 4).2.2) → Calls _ _ _ w (Moved w b 90 (.int .i64 (rn s 5).1) s (rn s 5).2.1 (rn s 5).2.2) := fun b w hx => rrdn_c s _ _ b w (by omega) hx
  have HBAD := Lib.hid (fun h => rn_bad (s := s) h)
  have HOKN := Lib.hid (fun h => rn_ok (s := s) h)
  have HLAST := Lib.hid (fun (L : List RX) h0 h1 hc h2 h3 hL => inner_last (s := s) (L := L) hs h0 h1 hc h2 h3 hL)
  generalize (rn s 0).1 = x0 at *
  generalize (rn s 0).2.1 = q0 at *
  generalize (rn s 0).2.2 = e0 at *
  generalize (rn s 1).1 = x1 at *
  generalize (rn s 1).2.1 = q1 at *
  generalize (rn s 1).2.2 = e1 at *
  generalize (rn s 2).1 = x2 at *
  generalize (rn s 2).2.1 = q2 at *
  generalize (rn s 2).2.2 = e2 at *
  generalize (rn s 3).1 = x3 at *
  generalize (rn s 3).2.1 = q3 at *
  generalize (rn s 3).2.2 = e3 at *
  generalize (rn s 4).1 = x4 at *
  generalize (rn s 4).2.1 = q4 at *
  generalize (rn s 4).2.2 = e4 at *
  generalize (rn s 5).1 = x5 at *
  generalize (rn s 5).2.1 = q5 at *
  generalize (rn s 5).2.2 = e5 at *
  obtain ⟨ok, hok⟩ : ∃ b, unpB s = b := ⟨_, rfl⟩
  have HOK := Lib.hid hok
  rw [hok]
  clear hok
  obtain ⟨BF, hBF⟩ : ∃ b, nbn (nrd s 6).1 = b := ⟨_, rfl⟩
  obtain ⟨RF, hRF⟩ : ∃ b, (recN s).1 = b := ⟨_, rfl⟩
  have HF := Lib.hid (And.intro hBF hRF)
  rw [hBF, hRF]
  clear hBF hRF
  have H0 := Lib.hid (InAt.start W s)
  unfold rdC zeroB at H0
  go_enter Tryd.func35, Tryd.ntmps35
  go_wp2_with fail
  (with_reducible refine (n0 _ _ H0.out.rd).mono ?_)
  rintro en w1 ⟨rfl, hx, ho⟩
  have M1 : Hid (InAt W s q0 e0 #[.int .i64 0, .int .i64 0, .int .i64 0, .int .i64 0, .int .i64 0, .slice none 0 0] _) := Lib.hid (H0.out.moved hx ho)
  clear hx ho H0 n0
  have y := (M1.out.bx.cell 0).trans (show _ = some (Value.int .i64 0) from rfl)
  have z := M1.out.bx.frozen 0
  have H1 : Hid (InAt W s q0 e0 #[.int .i64 x0, .int .i64 0, .int .i64 0, .int .i64 0, .int .i64 0, .slice none 0 0] _) := Lib.hid (M1.out.set 0 (.int .i64 x0))
  go_wp2_with fail
  clear y z M1
  (with_reducible refine (n1 _ _ H1.out.rd).mono ?_)
  rintro en w2 ⟨rfl, hx, ho⟩
  have M2 : Hid (InAt W s q1 e1 #[.int .i64 x0, .int .i64 0, .int .i64 0, .int .i64 0, .int .i64 0, .slice none 0 0] _) := Lib.hid (H1.out.moved hx ho)
  clear hx ho H1 n1
  have y := (M2.out.bx.cell 1).trans (show _ = some (Value.int .i64 0) from rfl)
  have z := M2.out.bx.frozen 1
  have H2 : Hid (InAt W s q1 e1 #[.int .i64 x0, .int .i64 x1, .int .i64 0, .int .i64 0, .int .i64 0, .slice none 0 0] _) := Lib.hid (M2.out.set 1 (.int .i64 x1))
  go_wp2_with fail
  clear y z M2
  (with_reducible refine (n2 _ _ H2.out.rd).mono ?_)
  rintro en w3 ⟨rfl, hx, ho⟩
  have M3 : Hid (InAt W s q2 e2 #[.int .i64 x0, .int .i64 x1, .int .i64 0, .int .i64 0, .int .i64 0, .slice none 0 0] _) := Lib.hid (H2.out.moved hx ho)
  clear hx ho H2 n2
  have y := (M3.out.bx.cell 2).trans (show _ = some (Value.int .i64 0) from rfl)
  have z := M3.out.bx.frozen 2
  have H3 : Hid (InAt W s q2 e2 #[.int .i64 x0, .int .i64 x1, .int .i64 x2, .int .i64 0, .int .i64 0, .slice none 0 0] _) := Lib.hid (M3.out.set 2 (.int .i64 x2))
  go_wp2_with fail
  clear y z M3
  (with_reducible refine (n3 _ _ H3.out.rd).mono ?_)
  rintro en w4 ⟨rfl, hx, ho⟩
  have M4 : Hid (InAt W s q3 e3 #[.int .i64 x0, .int .i64 x1, .int .i64 x2, .int .i64 0, .int .i64 0, .slice none 0 0] _) := Lib.hid (H3.out.moved hx ho)
  clear hx ho H3 n3
  have y := (M4.out.bx.cell 3).trans (show _ = some (Value.int .i64 0) from rfl)
  have z := M4.out.bx.frozen 3
  have H4 : Hid (InAt W s q3 e3 #[.int .i64 x0, .int .i64 x1, .int .i64 x2, .int .i64 x3, .int .i64 0, .slice none 0 0] _) := Lib.hid (M4.out.set 3 (.int .i64 x3))
  go_wp2_with fail
  clear y z M4
  (with_reducible refine (n4 _ _ H4.out.rd).mono ?_)
  rintro en w5 ⟨rfl, hx, ho⟩
  have M5 : Hid (InAt W s q4 e4 #[.int .i64 x0, .int .i64 x1, .int .i64 x2, .int .i64 x3, .int .i64 0, .slice none 0 0] _) := Lib.hid (H4.out.moved hx ho)
  clear hx ho H4 n4
  have y := (M5.out.bx.cell 4).trans (show _ = some (Value.int .i64 0) from rfl)
  have z := M5.out.bx.frozen 4
  have H5 : Hid (InAt W s q4 e4 #[.int .i64 x0, .int .i64 x1, .int .i64 x2, .int .i64 x3, .int .i64 x4, .slice none 0 0] _) := Lib.hid (M5.out.set 4 (.int .i64 x4))
  go_wp2_with fail
  clear y z M5
  (with_reducible refine (n5 _ _ H5.out.rd).mono ?_)
  rintro en w6 ⟨rfl, hx, ho⟩
  have H6 : Hid (InAt W s q5 e5 #[.int .i64 x0, .int .i64 x1, .int .i64 x2, .int .i64 x3, .int .i64 x4, .slice none 0 0] _) := Lib.hid (H5.out.moved hx ho)
  clear hx ho H5 n5
  have rr1 := (H6.out.rd.cell 1).trans (show _ = some (Value.int .i64 q5) from rfl)
  have rr2 := (H6.out.rd.cell 2).trans (show _ = some (Value.int .i64 e5) from rfl)
  have hbz := (H6.out.rs : Box _ _ _ #[.int .i64 0, .int .i64 0, .int .i64 0, .int .i64 0, .int .i64 0, .slice none 0 0])
  obtain ⟨y0, y1, y2, y3, y4, y5, f0, f1, f2, f3, f4, f5⟩ := box_six hbz
  clear hbz
  by_cases he : e5 = 0
  · subst he
    obtain ⟨hn1, hn2, hn3, hn4⟩ := HOKN.out rfl
    have HE := Lib.hid (And.intro hn1 (And.intro hn2 (And.intro hn3 hn4)))
    clear hn1 hn2 hn3 hn4 HOKN HBAD
    by_cases hn0 : x5 < 0
    · have hbad : ok = false := by rw [← HOK.out]; unfold unpB; rw [HE.out.2.2.2, decide_eq_false (show ¬ (0 ≤ x5 ∧ x5 ≤ 50) by omega)]; simp
      subst hbad
      go_wp2_with fail
      refine bodyPost_ret (v := .tuple #[.agg #[.int .i64 0, .int .i64 0, .int .i64 0, .int .i64 0, .int .i64 0, .slice none 0 0], .bool false]) ?_ rfl ?_
      · exact inn_result W.heap.size (bset_box (show Box _ _ _ #[.int .i64 0, .int .i64 0, .int .i64 0, .int .i64 0, .int .i64 0, .slice none 0 0] from H6.out.rs) _ _ _ _ _ _) _ rfl rfl
      · exact GotUn.zero (below_off H6.out.bel (bset_off _ _ _ _ _ _ _ _) (Nat.le_refl _))
    · by_cases hn1 : 50 < x5
      · have hbad : ok = false := by rw [← HOK.out]; unfold unpB; rw [HE.out.2.2.2, decide_eq_false (show ¬ (0 ≤ x5 ∧ x5 ≤ 50) by omega)]; simp
        subst hbad
        go_wp2_with fail
        refine bodyPost_ret (v := .tuple #[.agg #[.int .i64 0, .int .i64 0, .int .i64 0, .int .i64 0, .int .i64 0, .slice none 0 0], .bool false]) ?_ rfl ?_
        · exact inn_result W.heap.size (bset_box (show Box _ _ _ #[.int .i64 0, .int .i64 0, .int .i64 0, .int .i64 0, .int .i64 0, .slice none 0 0] from H6.out.rs) _ _ _ _ _ _) _ rfl rfl
        · exact GotUn.zero (below_off H6.out.bel (bset_off _ _ _ _ _ _ _ _) (Nat.le_refl _))
      · obtain ⟨m, rfl⟩ : ∃ m : Nat, x5 = m := ⟨x5.toNat, by omega⟩
        have hm50 : m ≤ 50 := by omega
        have HRN : Hid (recN s = rrd s q5 m) := Lib.hid (by unfold recN; rw [HE.out.2.1, HE.out.2.2.2, Int.toNat_natCast])
        have HB0 : Hid (BF = ⟨x0, x1, x2, x3, x4⟩) := Lib.hid (by rw [← HF.out.1]; exact HE.out.2.2.1)
        obtain ⟨i0, hq, hqz, hqs, hqb⟩ := info_parts recInfo
        clear y0 y1 y2 y3 y4 y5 f0 f1 f2 f3 f4 f5
        go_wp2_with fail
        clear rr1 rr2
        go_loopw [7, 8] (fun q i wr => ∃ (k : Nat) (L : List RX) (A : Option Addr) (c : Nat), i = .int .i64 k ∧ k ≤ m ∧ (rrd s q5 k).2.2 = 0 ∧ q = .int .i64 (rrd s q5 k).2.1 ∧ L.map (·.1) = (rrd s q5 k).1 ∧ InAt W s q5 0 #[.int .i64 x0, .int .i64 x1, .int .i64 x2, .int .i64 x3, .int .i64 x4, .slice A L.length c] wr ∧ RowR wr W.heap.size (.slice A L.length c) L) (fun _ i _ => m - (intOf i).toNat)
        case atStart => exact ⟨0, [], none, 0, rfl, Nat.zero_le _, rfl, rfl, rfl, H6.out, RowR.nil _ _⟩
        case round =>
          obtain ⟨k, L, A, c, rfl, hkm, he0, rfl, hLm, hV, hR⟩ := hrel
          have hLk : L.length = k := by rw [← rrd_len k he0, ← hLm, List.length_map]
          clear H6
          by_cases hk : k < m
          · have hsuc : rrd s q5 (k + 1) = if (decR s (rrd s q5 k).2.1).2.2 ≠ 0 then ((rrd s q5 k).1, (rrd s q5 k).2.1, (decR s (rrd s q5 k).2.1).2.2) else ((rrd s q5 k).1 ++ [(decR s (rrd s q5 k).2.1).1], (decR s (rrd s q5 k).2.1).2.1, 0) := by
              show (if (rrd s q5 k).2.2 ≠ 0 then _ else _) = _
              rw [if_neg (by simpa using he0)]
            have cd := fun w => rdec_c s (rrd s q5 k).2.1 w (by omega)
            obtain ⟨r, hr⟩ : ∃ x, (decR s (rrd s q5 k).2.1).1 = x := ⟨_, rfl⟩
            obtain ⟨q2, hq2⟩ : ∃ x, (decR s (rrd s q5 k).2.1).2.1 = x := ⟨_, rfl⟩
            obtain ⟨ee, he2⟩ : ∃ x, (decR s (rrd s q5 k).2.1).2.2 = x := ⟨_, rfl⟩
            rw [hr, hq2, he2] at hsuc
            rw [hr, hq2, he2] at cd
            have HS := Lib.hid hsuc
            have HV := Lib.hid (And.intro hV hR)
            have HLM := Lib.hid (And.intro hLm hLk)
            have hki : (k : Int) < (m : Int) := by omega
            have hL50 : L.length ≤ 50 := by omega
            clear hsuc hr hq2 he2 hV hR hLm hLk he0
            obtain ⟨place, time, bare, key, gone, value, heads⟩ := r
            unfold GotDec recV recC at cd
            simp only at cd
            by_cases hee : ee = 0
            · subst hee
              go_wp2_with fail
              (with_reducible refine (cd _).mono ?_)
              rintro en w1 ⟨A1, c1, rfl, hh, hb1⟩
              have HV1 := Lib.hid (And.intro (HV.out.1.later hb1) (HV.out.2.later hb1))
              have HH := Lib.hid (own_base hh HV.out.1.bel.size)
              clear hh hb1 HV cd
              have hal1 : Below w1.heap.size w1 (w1.alloc (.cells #[.int .i64 place, .int .i64 time, .bool bare, .string key, .bool gone, .string value, .slice A1 heads.length c1] 49)) := (Below.refl _ _).alloc (Nat.le_refl _) _
              have hal2 : Below w1.heap.size w1 ((w1.alloc (.cells #[.int .i64 place, .int .i64 time, .bool bare, .string key, .bool gone, .string value, .slice A1 heads.length c1] 49)).alloc (.cells #[.int .i64 place, .int .i64 time, .bool bare, .string key, .bool gone, .string value, .slice A1 heads.length c1] 49)) := hal1.alloc hal1.size _
              have y5 := ((HV1.out.1.later hal1).bx.cell 5).trans rfl
              simp only [List.getElem?_toArray, List.getElem?_cons_zero, List.getElem?_cons_succ] at y5
              have HV2 := Lib.hid (And.intro (HV1.out.1.later hal2) (And.intro (HV1.out.2.later hal2) (own_below HH.out hal2)))
              have hrow := HV2.out.2.1.row
              have hbn := (by
                have := Box.new (w1.alloc (.cells #[.int .i64 place, .int .i64 time, .bool bare, .string key, .bool gone, .string value, .slice A1 heads.length c1] 49)) 49 (recC ⟨place, time, bare, key, gone, value, heads⟩ A1 c1)
                rw [World.size_alloc] at this
                exact this : Box ((w1.alloc (.cells #[.int .i64 place, .int .i64 time, .bool bare, .string key, .bool gone, .string value, .slice A1 heads.length c1] 49)).alloc (.cells (recC ⟨place, time, bare, key, gone, value, heads⟩ A1 c1) 49)) (w1.heap.size + 1) 49 (recC ⟨place, time, bare, key, gone, value, heads⟩ A1 c1))
              have hnews := news_at hbn
              have hone := rec_one ⟨place, time, bare, key, gone, value, heads⟩ A1 c1
              have hsz2 := HV2.out.1.bel.size
              unfold recC at hnews hone
              simp only at hnews hone
              have HNW := Lib.hid (And.intro hnews hone)
              clear hal1 hal2 hbn hnews hone HV1 HH
              go_wp2_with (at_builtin; refine wpList_append_own_at _ rfl _ _ 22 rfl W.heap.size 49 i0 _ 7 88 Tryd.underlying22 hq hqz hqs hqb recC_zero (by decide) (.slice A L.length c) L.length (recsC L) rfl hrow ⟨w1.heap.size + 1, 0, none⟩ 1 1 [.int .i64 place, .int .i64 time, .bool bare, .string key, .bool gone, .string value, .slice A1 heads.length c1] rfl rfl HNW.out.1 HNW.out.2 (by unfold maxLen; omega) (by omega) hsz2 ?_)
              intro v' w2 hown' hgrow _ _
              obtain ⟨g', cap', rfl⟩ : ∃ g' cap', v' = .slice (some ⟨g', 0, none⟩) (L.length + 1) cap' := by
                rcases hown'.2 with ⟨_, h0⟩ | ⟨g, cap, cur, hv, _⟩
                · omega
                · exact ⟨g, cap, hv⟩
              have HU2 := Lib.hid (HV2.out.1.grown hrow hgrow)
              have HR2 := Lib.hid (HV2.out.2.1.grow (x := (⟨place, time, bare, key, gone, value, heads⟩, A1, c1)) HV2.out.2.2 hown' hgrow)
              have z5 := (HU2.out.bx.cell 5).trans rfl
              simp only [List.getElem?_toArray, List.getElem?_cons_zero, List.getElem?_cons_succ] at z5
              have hfr := HU2.out.bx.frozen 5
              have HU3 := Lib.hid (HU2.out.set 5 (.slice (some ⟨g', 0, none⟩) (L.length + 1) cap'))
              have HR3 := Lib.hid (HR2.out.set HU2.out.bx (by decide) (by decide) 5 (.slice (some ⟨g', 0, none⟩) (L.length + 1) cap'))
              clear hown' hgrow hrow y5
              go_wp2
              go_roundw
              case rel =>
                refine ⟨k + 1, L ++ [(⟨place, time, bare, key, gone, value, heads⟩, A1, c1)], some ⟨g', 0, none⟩, cap', by go_num, hk, ?_, ?_, ?_, ?_, ?_⟩
                · rw [HS.out, if_neg (by simp)]
                · rw [HS.out, if_neg (by simp)]
                · rw [HS.out, if_neg (by simp), List.map_append, HLM.out.1]; rfl
                · rw [List.length_append]; exact HU3.out
                · rw [List.length_append]; exact HR3.out
              case measure => simp [intOf]; omega
            · have hee' : (ee == 0) = false := by rw [beq_eq_false_iff_ne]; exact hee
              have hee2 : (ee != 0) = true := by simpa using hee
              have hbad : ok = false := by
                rw [← HOK.out]
                unfold unpB
                rw [HRN.out]
                have h6 : rrd s q5 m = rrd s q5 (k + 1) := by
                  have := rrd_stop (s := s) (q := q5) (k := k + 1) (by rw [HS.out, if_pos hee]; exact hee) (m - (k + 1))
                  rw [← this]
                  congr 1
                  omega
                rw [h6, HS.out, if_pos hee, decide_eq_false hee]
                simp
              subst hbad
              clear hee
              go_wp2_with fail
              (with_reducible refine (cd _).mono ?_)
              rintro en w1 ⟨A1, c1, rfl, hh, hb1⟩
              have HV1 := Lib.hid ((HV.out.1.later hb1).later ((Below.refl _ _).alloc (Nat.le_refl _) (.cells #[.int .i64 place, .int .i64 time, .bool bare, .string key, .bool gone, .string value, .slice A1 heads.length c1] 49)))
              clear hh hb1 HV cd
              have hbz := (HV1.out.rs : Box _ _ _ #[.int .i64 0, .int .i64 0, .int .i64 0, .int .i64 0, .int .i64 0, .slice none 0 0])
              obtain ⟨y0, y1, y2, y3, y4, y5, f0, f1, f2, f3, f4, f5⟩ := box_six hbz
              clear hbz
              go_wp2_with fail
              refine bodyPost_ret (v := .tuple #[.agg #[.int .i64 0, .int .i64 0, .int .i64 0, .int .i64 0, .int .i64 0, .slice none 0 0], .bool false]) ?_ rfl ?_
              · exact inn_result W.heap.size (bset_box (show Box _ _ _ #[.int .i64 0, .int .i64 0, .int .i64 0, .int .i64 0, .int .i64 0, .slice none 0 0] from HV1.out.rs) _ _ _ _ _ _) _ rfl rfl
              · exact GotUn.zero (below_off HV1.out.bel (bset_off _ _ _ _ _ _ _ _) (Nat.le_refl _))
          · obtain rfl : k = m := by omega
            have HRF : Hid (L.map (·.1) = RF) := Lib.hid (by rw [hLm, ← HRN.out]; exact HF.out.2)
            have HLL : Hid ((rrd s q5 k).2.1 = (s.size : Int) → batB BF L = ok) := Lib.hid (fun h3 => by
              rw [← HOK.out, ← HF.out.1]
              exact HLAST.out L HE.out.1 (by rw [HE.out.2.2.2]; omega) (by rw [HE.out.2.2.2]; omega) (by rw [HRN.out]; exact he0) (by rw [HRN.out]; exact h3) (by rw [HRN.out]; exact hLm))
            have HNL : Hid ((rrd s q5 k).2.1 ≠ (s.size : Int) → ok = false) := Lib.hid (fun h3 => by
              rw [← HOK.out]
              unfold unpB
              rw [HRN.out, decide_eq_false h3]
              simp)
            have HV := Lib.hid (And.intro hV hR)
            have hL50 : L.length ≤ 50 := by omega
            have HOKR := Lib.hid (show ∀ r ∈ L.map (·.1), okRec r = true by rw [hLm]; exact rrd_ok k)
            clear HLAST HRN HF hLm hLk he0 hV hR hq hqz hqs hqb
            generalize (rrd s q5 k).2.1 = q at *
            have hokL : ∀ x ∈ L, okRec x.1 = true := fun x hx => HOKR.out x.1 (List.mem_map.2 ⟨x, hx, rfl⟩)
            have HS0 : Hid (InS W BF A c L wr) := Lib.hid (by
              rw [HB0.out]
              exact ⟨⟨_, _, _, _, _, _, HV.out.1.rs⟩, HV.out.1.bx, HV.out.2, HV.out.2.rsin hokL, HV.out.1.bel⟩)
            have c1 := fun w hw => rcheck5_c BF A c L w hw (by omega)
            unfold batE at c1
            obtain ⟨base, span, prod, epoch, seq⟩ := BF
            injection HB0.out with b0 b1 b2 b3 b4
            subst b0 b1 b2 b3 b4
            have hS0 := (HS0.out.later ((Below.refl _ _).drew)).cells
            unfold bnC at c1
            simp only at c1
            clear hokL HOKR HV
            go_wp2_with fail
            by_cases hq : q = (s.size : Int)
            · subst hq
              have hlb := HLL.out rfl
              cases ok with
              | false =>
                rw [hlb, if_neg (by decide)] at c1
                clear hlb
                refine wp_region_held_drew (S := (fun w => w.cell? ⟨W.heap.size + 1 + 1, 0, none⟩ = some (.int .i64 base) ∧ w.cell? ⟨W.heap.size + 1 + 1, 1, none⟩ = some (.int .i64 span) ∧ w.cell? ⟨W.heap.size + 1 + 1, 2, none⟩ = some (.int .i64 prod) ∧ w.cell? ⟨W.heap.size + 1 + 1, 3, none⟩ = some (.int .i64 epoch) ∧ w.cell? ⟨W.heap.size + 1 + 1, 4, none⟩ = some (.int .i64 seq) ∧ w.cell? ⟨W.heap.size + 1 + 1, 5, none⟩ = some (.slice A L.length c) ∧ InS W ⟨base, span, prod, epoch, seq⟩ A c L w)) (by kernel_rfl) hS0 (fun hHeld => ?_)
                refine takeW (i := 0) (v := ?v1) rfl (by kernel_rfl) (by kernel_rfl) (by kernel_rfl) (fun _ _ _ h => h) (by kernel_rfl) hHeld ?hy1 ?rest1
                case hy1 => (intro w hSw; (try dsimp only at hSw); go_simp; (try with_reducible rfl))
                try simp only [Act.put, List.setIfInBounds_toArray, List.set_cons_zero, List.set_cons_succ]
                refine takeW (i := 1) (v := ?v2) rfl (by kernel_rfl) (by kernel_rfl) (by kernel_rfl) (fun _ _ _ h => h) (by kernel_rfl) hHeld ?hy2 ?rest2
                case hy2 => (intro w hSw; (try dsimp only at hSw); go_simp; (try with_reducible rfl))
                try simp only [Act.put, List.setIfInBounds_toArray, List.set_cons_zero, List.set_cons_succ]
                refine takeW (i := 2) (v := ?v3) rfl (by kernel_rfl) (by kernel_rfl) (by kernel_rfl) (fun _ _ _ h => h) (by kernel_rfl) hHeld ?hy3 ?rest3
                case hy3 => (intro w hSw; (try dsimp only at hSw); go_simp; (try with_reducible rfl))
                try simp only [Act.put, List.setIfInBounds_toArray, List.set_cons_zero, List.set_cons_succ]
                refine takeW (i := 3) (v := ?v4) rfl (by kernel_rfl) (by kernel_rfl) (by kernel_rfl) (fun _ _ _ h => h) (by kernel_rfl) hHeld ?hy4 ?rest4
                case hy4 => (intro w hSw; (try dsimp only at hSw); go_simp; (try with_reducible rfl))
                try simp only [Act.put, List.setIfInBounds_toArray, List.set_cons_zero, List.set_cons_succ]
                refine takeW (i := 4) (v := ?v5) rfl (by kernel_rfl) (by kernel_rfl) (by kernel_rfl) (fun _ _ _ h => h) (by kernel_rfl) hHeld ?hy5 ?rest5
                case hy5 => (intro w hSw; (try dsimp only at hSw); go_simp; (try with_reducible rfl))
                try simp only [Act.put, List.setIfInBounds_toArray, List.set_cons_zero, List.set_cons_succ]
                refine takeW (i := 5) (v := ?v6) rfl (by kernel_rfl) (by kernel_rfl) (by kernel_rfl) (fun _ _ _ h => h) (by kernel_rfl) hHeld ?hy6 ?rest6
                case hy6 => (intro w hSw; (try dsimp only at hSw); go_simp; (try with_reducible rfl))
                try simp only [Act.put, List.setIfInBounds_toArray, List.set_cons_zero, List.set_cons_succ]
                refine takeW (i := 6) (v := ?v7) rfl (by kernel_rfl) (by kernel_rfl) (by kernel_rfl) (fun _ _ _ h => h) (by kernel_rfl) hHeld ?hy7 ?rest7
                case hy7 => (intro w hSw; (try dsimp only at hSw); go_simp; (try with_reducible rfl))
                try simp only [Act.put, List.setIfInBounds_toArray, List.set_cons_zero, List.set_cons_succ]
                refine wpAnyH_ready (rs := [7]) (by kernel_rfl) (by simp) ?_
                refine consL rfl (by kernel_rfl) (fun K hK => ?_) AllReadyH.nil
                go_simp
                (with_reducible refine (c1 _ hHeld.2.2.2.2.2.2.rin).mono ?_)
                rintro e w6 ⟨rfl, hb2⟩
                refine hK.out _ _ (in_later hHeld hb2) (fun hHeld => ?_)
                clear hK K hb2
                try simp only [Act.put, List.setIfInBounds_toArray, List.set_cons_zero, List.set_cons_succ]
                refine takeW (i := 8) (v := ?v8) rfl (by kernel_rfl) (by kernel_rfl) (by kernel_rfl) (fun _ _ _ h => h) (by kernel_rfl) hHeld ?hy8 ?rest8
                case hy8 => (intro w hSw; (try dsimp only at hSw); go_simp; (try with_reducible rfl))
                try simp only [Act.put, List.setIfInBounds_toArray, List.set_cons_zero, List.set_cons_succ]
                refine takeW (i := 9) (v := ?v9) rfl (by kernel_rfl) (by kernel_rfl) (by kernel_rfl) (fun _ _ _ h => h) (by kernel_rfl) hHeld ?hy9 ?rest9
                case hy9 => (intro w hSw; (try dsimp only at hSw); go_simp; (try with_reducible rfl))
                try simp only [Act.put, List.setIfInBounds_toArray, List.set_cons_zero, List.set_cons_succ]
                obtain ⟨r0, r1, r2, r3, r4, r5, hrb⟩ := hHeld.2.2.2.2.2.2.res
                obtain ⟨y0, y1, y2, y3, y4, y5, f0, f1, f2, f3, f4, f5⟩ := box_six hrb
                refine wpAnyH_ready (rs := [10]) (by kernel_rfl) (by simp) ?_
                refine consL rfl (by kernel_rfl) (fun K hK => ?_) AllReadyH.nil
                go_simp
                refine hK.out _ _ (in_set hHeld (.int .i64 base) (.int .i64 span) (.int .i64 prod) (.int .i64 epoch) (.int .i64 seq) (.slice A L.length c)) (fun hHeld2 => ?_)
                clear hK K y0 y1 y2 y3 y4 y5 f0 f1 f2 f3 f4 f5
                refine takeW (i := 11) (v := ?v10) rfl (by kernel_rfl) (by kernel_rfl) (by kernel_rfl) (fun _ _ _ h => h) (by kernel_rfl) hHeld2 ?hy10 ?rest10
                case hy10 => (intro w hSw; (try dsimp only at hSw); go_simp; (try with_reducible rfl))
                try simp only [Act.put, List.setIfInBounds_toArray, List.set_cons_zero, List.set_cons_succ]
                refine wpAnyH_done (by kernel_rfl) ?_ _
                go_wp2_with fail
                refine bodyPost_ret (v := .tuple #[.agg #[.int .i64 base, .int .i64 span, .int .i64 prod, .int .i64 epoch, .int .i64 seq, .slice A L.length c], .bool false]) ?_ rfl ?_
                · exact inn_result W.heap.size (bset_box hrb _ _ _ _ _ _) _ rfl rfl
                · exact ⟨⟨base, span, prod, epoch, seq⟩, A, L.length, c, rfl, fun _ => ⟨rfl, L, HRF.out, rfl, hHeld2.2.2.2.2.2.2.row⟩, hHeld2.2.2.2.2.2.2.bel⟩
              | true =>
                rw [hlb, if_pos rfl] at c1
                clear hlb
                refine wp_region_held_drew (S := (fun w => w.cell? ⟨W.heap.size + 1 + 1, 0, none⟩ = some (.int .i64 base) ∧ w.cell? ⟨W.heap.size + 1 + 1, 1, none⟩ = some (.int .i64 span) ∧ w.cell? ⟨W.heap.size + 1 + 1, 2, none⟩ = some (.int .i64 prod) ∧ w.cell? ⟨W.heap.size + 1 + 1, 3, none⟩ = some (.int .i64 epoch) ∧ w.cell? ⟨W.heap.size + 1 + 1, 4, none⟩ = some (.int .i64 seq) ∧ w.cell? ⟨W.heap.size + 1 + 1, 5, none⟩ = some (.slice A L.length c) ∧ InS W ⟨base, span, prod, epoch, seq⟩ A c L w)) (by kernel_rfl) hS0 (fun hHeld => ?_)
                refine takeW (i := 0) (v := ?v11) rfl (by kernel_rfl) (by kernel_rfl) (by kernel_rfl) (fun _ _ _ h => h) (by kernel_rfl) hHeld ?hy11 ?rest11
                case hy11 => (intro w hSw; (try dsimp only at hSw); go_simp; (try with_reducible rfl))
                try simp only [Act.put, List.setIfInBounds_toArray, List.set_cons_zero, List.set_cons_succ]
                refine takeW (i := 1) (v := ?v12) rfl (by kernel_rfl) (by kernel_rfl) (by kernel_rfl) (fun _ _ _ h => h) (by kernel_rfl) hHeld ?hy12 ?rest12
                case hy12 => (intro w hSw; (try dsimp only at hSw); go_simp; (try with_reducible rfl))
                try simp only [Act.put, List.setIfInBounds_toArray, List.set_cons_zero, List.set_cons_succ]
                refine takeW (i := 2) (v := ?v13) rfl (by kernel_rfl) (by kernel_rfl) (by kernel_rfl) (fun _ _ _ h => h) (by kernel_rfl) hHeld ?hy13 ?rest13
                case hy13 => (intro w hSw; (try dsimp only at hSw); go_simp; (try with_reducible rfl))
                try simp only [Act.put, List.setIfInBounds_toArray, List.set_cons_zero, List.set_cons_succ]
                refine takeW (i := 3) (v := ?v14) rfl (by kernel_rfl) (by kernel_rfl) (by kernel_rfl) (fun _ _ _ h => h) (by kernel_rfl) hHeld ?hy14 ?rest14
                case hy14 => (intro w hSw; (try dsimp only at hSw); go_simp; (try with_reducible rfl))
                try simp only [Act.put, List.setIfInBounds_toArray, List.set_cons_zero, List.set_cons_succ]
                refine takeW (i := 4) (v := ?v15) rfl (by kernel_rfl) (by kernel_rfl) (by kernel_rfl) (fun _ _ _ h => h) (by kernel_rfl) hHeld ?hy15 ?rest15
                case hy15 => (intro w hSw; (try dsimp only at hSw); go_simp; (try with_reducible rfl))
                try simp only [Act.put, List.setIfInBounds_toArray, List.set_cons_zero, List.set_cons_succ]
                refine takeW (i := 5) (v := ?v16) rfl (by kernel_rfl) (by kernel_rfl) (by kernel_rfl) (fun _ _ _ h => h) (by kernel_rfl) hHeld ?hy16 ?rest16
                case hy16 => (intro w hSw; (try dsimp only at hSw); go_simp; (try with_reducible rfl))
                try simp only [Act.put, List.setIfInBounds_toArray, List.set_cons_zero, List.set_cons_succ]
                refine takeW (i := 6) (v := ?v17) rfl (by kernel_rfl) (by kernel_rfl) (by kernel_rfl) (fun _ _ _ h => h) (by kernel_rfl) hHeld ?hy17 ?rest17
                case hy17 => (intro w hSw; (try dsimp only at hSw); go_simp; (try with_reducible rfl))
                try simp only [Act.put, List.setIfInBounds_toArray, List.set_cons_zero, List.set_cons_succ]
                refine wpAnyH_ready (rs := [7]) (by kernel_rfl) (by simp) ?_
                refine consL rfl (by kernel_rfl) (fun K hK => ?_) AllReadyH.nil
                go_simp
                (with_reducible refine (c1 _ hHeld.2.2.2.2.2.2.rin).mono ?_)
                rintro e w6 ⟨rfl, hb2⟩
                refine hK.out _ _ (in_later hHeld hb2) (fun hHeld => ?_)
                clear hK K hb2
                try simp only [Act.put, List.setIfInBounds_toArray, List.set_cons_zero, List.set_cons_succ]
                refine takeW (i := 8) (v := ?v18) rfl (by kernel_rfl) (by kernel_rfl) (by kernel_rfl) (fun _ _ _ h => h) (by kernel_rfl) hHeld ?hy18 ?rest18
                case hy18 => (intro w hSw; (try dsimp only at hSw); go_simp; (try with_reducible rfl))
                try simp only [Act.put, List.setIfInBounds_toArray, List.set_cons_zero, List.set_cons_succ]
                refine takeW (i := 9) (v := ?v19) rfl (by kernel_rfl) (by kernel_rfl) (by kernel_rfl) (fun _ _ _ h => h) (by kernel_rfl) hHeld ?hy19 ?rest19
                case hy19 => (intro w hSw; (try dsimp only at hSw); go_simp; (try with_reducible rfl))
                try simp only [Act.put, List.setIfInBounds_toArray, List.set_cons_zero, List.set_cons_succ]
                obtain ⟨r0, r1, r2, r3, r4, r5, hrb⟩ := hHeld.2.2.2.2.2.2.res
                obtain ⟨y0, y1, y2, y3, y4, y5, f0, f1, f2, f3, f4, f5⟩ := box_six hrb
                refine wpAnyH_ready (rs := [10]) (by kernel_rfl) (by simp) ?_
                refine consL rfl (by kernel_rfl) (fun K hK => ?_) AllReadyH.nil
                go_simp
                refine hK.out _ _ (in_set hHeld (.int .i64 base) (.int .i64 span) (.int .i64 prod) (.int .i64 epoch) (.int .i64 seq) (.slice A L.length c)) (fun hHeld2 => ?_)
                clear hK K y0 y1 y2 y3 y4 y5 f0 f1 f2 f3 f4 f5
                refine takeW (i := 11) (v := ?v20) rfl (by kernel_rfl) (by kernel_rfl) (by kernel_rfl) (fun _ _ _ h => h) (by kernel_rfl) hHeld2 ?hy20 ?rest20
                case hy20 => (intro w hSw; (try dsimp only at hSw); go_simp; (try with_reducible rfl))
                try simp only [Act.put, List.setIfInBounds_toArray, List.set_cons_zero, List.set_cons_succ]
                refine wpAnyH_done (by kernel_rfl) ?_ _
                go_wp2_with fail
                refine bodyPost_ret (v := .tuple #[.agg #[.int .i64 base, .int .i64 span, .int .i64 prod, .int .i64 epoch, .int .i64 seq, .slice A L.length c], .bool true]) ?_ rfl ?_
                · exact inn_result W.heap.size (bset_box hrb _ _ _ _ _ _) _ rfl rfl
                · exact ⟨⟨base, span, prod, epoch, seq⟩, A, L.length, c, rfl, fun _ => ⟨rfl, L, HRF.out, rfl, hHeld2.2.2.2.2.2.2.row⟩, hHeld2.2.2.2.2.2.2.bel⟩
            · have hq' : (q == (s.size : Int)) = false := by rw [beq_eq_false_iff_ne]; exact hq
              have hok := HNL.out hq
              subst hok
              refine wp_region_held_drew (S := (fun w => w.cell? ⟨W.heap.size + 1 + 1, 0, none⟩ = some (.int .i64 base) ∧ w.cell? ⟨W.heap.size + 1 + 1, 1, none⟩ = some (.int .i64 span) ∧ w.cell? ⟨W.heap.size + 1 + 1, 2, none⟩ = some (.int .i64 prod) ∧ w.cell? ⟨W.heap.size + 1 + 1, 3, none⟩ = some (.int .i64 epoch) ∧ w.cell? ⟨W.heap.size + 1 + 1, 4, none⟩ = some (.int .i64 seq) ∧ w.cell? ⟨W.heap.size + 1 + 1, 5, none⟩ = some (.slice A L.length c) ∧ InS W ⟨base, span, prod, epoch, seq⟩ A c L w)) (by kernel_rfl) hS0 (fun hHeld => ?_)
              refine takeW (i := 0) (v := ?v21) rfl (by kernel_rfl) (by kernel_rfl) (by kernel_rfl) (fun _ _ _ h => h) (by kernel_rfl) hHeld ?hy21 ?rest21
              case hy21 => (intro w hSw; (try dsimp only at hSw); go_simp; (try with_reducible rfl))
              try simp only [Act.put, List.setIfInBounds_toArray, List.set_cons_zero, List.set_cons_succ]
              refine takeW (i := 1) (v := ?v22) rfl (by kernel_rfl) (by kernel_rfl) (by kernel_rfl) (fun _ _ _ h => h) (by kernel_rfl) hHeld ?hy22 ?rest22
              case hy22 => (intro w hSw; (try dsimp only at hSw); go_simp; (try with_reducible rfl))
              try simp only [Act.put, List.setIfInBounds_toArray, List.set_cons_zero, List.set_cons_succ]
              refine takeW (i := 2) (v := ?v23) rfl (by kernel_rfl) (by kernel_rfl) (by kernel_rfl) (fun _ _ _ h => h) (by kernel_rfl) hHeld ?hy23 ?rest23
              case hy23 => (intro w hSw; (try dsimp only at hSw); go_simp; (try with_reducible rfl))
              try simp only [Act.put, List.setIfInBounds_toArray, List.set_cons_zero, List.set_cons_succ]
              refine takeW (i := 3) (v := ?v24) rfl (by kernel_rfl) (by kernel_rfl) (by kernel_rfl) (fun _ _ _ h => h) (by kernel_rfl) hHeld ?hy24 ?rest24
              case hy24 => (intro w hSw; (try dsimp only at hSw); go_simp; (try with_reducible rfl))
              try simp only [Act.put, List.setIfInBounds_toArray, List.set_cons_zero, List.set_cons_succ]
              refine takeW (i := 4) (v := ?v25) rfl (by kernel_rfl) (by kernel_rfl) (by kernel_rfl) (fun _ _ _ h => h) (by kernel_rfl) hHeld ?hy25 ?rest25
              case hy25 => (intro w hSw; (try dsimp only at hSw); go_simp; (try with_reducible rfl))
              try simp only [Act.put, List.setIfInBounds_toArray, List.set_cons_zero, List.set_cons_succ]
              refine takeW (i := 5) (v := ?v26) rfl (by kernel_rfl) (by kernel_rfl) (by kernel_rfl) (fun _ _ _ h => h) (by kernel_rfl) hHeld ?hy26 ?rest26
              case hy26 => (intro w hSw; (try dsimp only at hSw); go_simp; (try with_reducible rfl))
              try simp only [Act.put, List.setIfInBounds_toArray, List.set_cons_zero, List.set_cons_succ]
              refine takeU (i := 6) rfl (by kernel_rfl) (by kernel_rfl) (by kernel_rfl) (fun _ _ _ h => h) (by kernel_rfl) hHeld ?_
              try simp only [Act.put, List.setIfInBounds_toArray, List.set_cons_zero, List.set_cons_succ]
              refine takeU (i := 7) rfl (by kernel_rfl) (by kernel_rfl) (by kernel_rfl) (fun _ _ _ h => h) (by kernel_rfl) hHeld ?_
              try simp only [Act.put, List.setIfInBounds_toArray, List.set_cons_zero, List.set_cons_succ]
              refine takeU (i := 8) rfl (by kernel_rfl) (by kernel_rfl) (by kernel_rfl) (fun _ _ _ h => h) (by kernel_rfl) hHeld ?_
              try simp only [Act.put, List.setIfInBounds_toArray, List.set_cons_zero, List.set_cons_succ]
              refine takeW (i := 9) (v := ?v27) rfl (by kernel_rfl) (by kernel_rfl) (by kernel_rfl) (fun _ _ _ h => h) (by kernel_rfl) hHeld ?hy27 ?rest27
              case hy27 => (intro w hSw; (try dsimp only at hSw); go_simp; (try with_reducible rfl))
              try simp only [Act.put, List.setIfInBounds_toArray, List.set_cons_zero, List.set_cons_succ]
              obtain ⟨r0, r1, r2, r3, r4, r5, hrb⟩ := HS0.out.res
              obtain ⟨y0, y1, y2, y3, y4, y5, f0, f1, f2, f3, f4, f5⟩ := box_six hrb
              refine wpAnyH_ready (rs := [10]) (by kernel_rfl) (by simp) ?_
              refine consL rfl (by kernel_rfl) (fun K hK => ?_) AllReadyH.nil
              go_simp
              refine hK.out _ _ (InS.later (in_set HS0.out.cells (.int .i64 base) (.int .i64 span) (.int .i64 prod) (.int .i64 epoch) (.int .i64 seq) (.slice A L.length c)).2.2.2.2.2.2 ((Below.refl _ _).drew)).cells (fun hHeld2 => ?_)
              clear hK K y0 y1 y2 y3 y4 y5 f0 f1 f2 f3 f4 f5
              refine takeW (i := 11) (v := ?v28) rfl (by kernel_rfl) (by kernel_rfl) (by kernel_rfl) (fun _ _ _ h => h) (by kernel_rfl) hHeld2 ?hy28 ?rest28
              case hy28 => (intro w hSw; (try dsimp only at hSw); go_simp; (try with_reducible rfl))
              try simp only [Act.put, List.setIfInBounds_toArray, List.set_cons_zero, List.set_cons_succ]
              refine wpAnyH_done (by kernel_rfl) ?_ _
              go_wp2_with fail
              refine bodyPost_ret (v := .tuple #[.agg #[.int .i64 base, .int .i64 span, .int .i64 prod, .int .i64 epoch, .int .i64 seq, .slice A L.length c], .bool false]) ?_ rfl ?_
              · exact inn_result W.heap.size (bset_box hrb _ _ _ _ _ _).drew _ rfl rfl
              · exact ⟨⟨base, span, prod, epoch, seq⟩, A, L.length, c, rfl, fun _ => ⟨rfl, L, HRF.out, rfl, hHeld2.2.2.2.2.2.2.row⟩, hHeld2.2.2.2.2.2.2.bel⟩
  · have he1 : (e5 == 0) = false := by rw [beq_eq_false_iff_ne]; exact he
    have he2 : (e5 != 0) = true := by simpa using he
    have hbad := HBAD.out he
    rw [HOK.out] at hbad
    subst hbad
    clear he
    go_wp2_with fail
    refine bodyPost_ret (v := .tuple #[.agg #[.int .i64 0, .int .i64 0, .int .i64 0, .int .i64 0, .int .i64 0, .slice none 0 0], .bool false]) ?_ rfl ?_
    · exact inn_result W.heap.size (bset_box (show Box _ _ _ #[.int .i64 0, .int .i64 0, .int .i64 0, .int .i64 0, .int .i64 0, .slice none 0 0] from H6.out.rs) _ _ _ _ _ _) _ rfl rfl
    · exact GotUn.zero (below_off H6.out.bel (bset_off _ _ _ _ _ _ _ _) (Nat.le_refl _))
end Go.Proofs.YtmhamfhhojmeoaaDoor
/- The document's Decode of a batch. Condition: the text has at most 1000000 bytes. -/
namespace Go.Proofs.YtmhamfhhojmeoaaDoor
open Go.RowKit
set_option linter.unusedVariables false
theorem decG_err {s : ByteArray} {p e : Int} (h : (bodyG s p).2.2 = e) (he : e ≠ 0) : decG s p = (zeroN, [], 0, e) := by
  unfold decG
  rw [if_pos (by rw [h]; exact he), h]
theorem rdc_result {w : World} (g : Nat) {v0 v1 v2 v3 v4 v5 x y : Value} (h : Box w g 24 #[v0, v1, v2, v3, v4, v5]) (tmps : Array Value) (ht : (tmps[4]?).getD undef = .pointer (some ⟨g, 0, none⟩)) (h5 : (tmps[5]?).getD undef = x) (h6 : (tmps[6]?).getD undef = y) :
    (results Tryd.f18 tmps).run Tryd.prog w = .ok (.tuple #[.agg #[v0, v1, v2, v3, v4, v5], x, y]) w := by
  have c0 := (h.cell 0).trans (show _ = some v0 from rfl)
  have c1 := (h.cell 1).trans (show _ = some v1 from rfl)
  have c2 := (h.cell 2).trans (show _ = some v2 from rfl)
  have c3 := (h.cell 3).trans (show _ = some v3 from rfl)
  have c4 := (h.cell 4).trans (show _ = some v4 from rfl)
  have c5 := (h.cell 5).trans (show _ = some v5 from rfl)
  simp [results, Tryd.results18, go_sem, ht, h5, h6, c0, c1, c2, c3, c4, c5]
set_option maxHeartbeats 16000000 in
set_option maxRecDepth 100000 in
theorem rdecode5_c (s : ByteArray) (p : Int) (W : World) (hs : s.size ≤ 1000000) :
    Calls Tryd.prog 18 #[.string s, .int .i64 p] W (GotBt W (decG s p).1 (decG s p).2.1 (decG s p).2.2.1 (decG s p).2.2.2) := by
  obtain ⟨W0, hW0⟩ : ∃ w, W.alloc (.cells #[.int .i64 0, .int .i64 0, .int .i64 0, .int .i64 0, .int .i64 0, .slice none 0 0] 24) = w := ⟨_, rfl⟩
  have HA : Hid (Below W.heap.size W W0 ∧ Box W0 W.heap.size 24 #[.int .i64 0, .int .i64 0, .int .i64 0, .int .i64 0, .int .i64 0, .slice none 0 0]) := Lib.hid (by
    rw [← hW0]
    exact ⟨(Below.refl _ W).alloc (Nat.le_refl _) _, Box.new W 24 _⟩)
  obtain ⟨y0, y1, y2, y3, y4, y5, f0, f1, f2, f3, f4, f5⟩ := box_six HA.out.2
  by_cases h1 : p < 0 ∨ (s.size : Int) < p
  · have hD : decG s p = (zeroN, [], 0, 1) := decG_err (by unfold bodyG; rw [if_pos h1]) (by decide)
    rw [hD]
    clear hD
    by_cases h0 : p < 0
    · clear h1
      go_enter Tryd.func18, Tryd.ntmps18
      go_wp2_with fail
      refine bodyPost_ret (v := .tuple #[.agg #[.int .i64 0, .int .i64 0, .int .i64 0, .int .i64 0, .int .i64 0, .slice none 0 0], .int .i64 0, .int .i64 1]) ?_ rfl ?_
      · exact rdc_result W.heap.size (bset_box HA.out.2 _ _ _ _ _ _) _ rfl rfl rfl
      · exact GotBt.zero (below_off HA.out.1 (bset_off _ _ _ _ _ _ _ _) (Nat.le_refl _))
    · have h0' : (s.size : Int) < p := by omega
      clear h1
      go_enter Tryd.func18, Tryd.ntmps18
      go_wp2_with fail
      refine bodyPost_ret (v := .tuple #[.agg #[.int .i64 0, .int .i64 0, .int .i64 0, .int .i64 0, .int .i64 0, .slice none 0 0], .int .i64 0, .int .i64 1]) ?_ rfl ?_
      · exact rdc_result W.heap.size (bset_box HA.out.2 _ _ _ _ _ _) _ rfl rfl rfl
      · exact GotBt.zero (below_off HA.out.1 (bset_off _ _ _ _ _ _ _ _) (Nat.le_refl _))
  · have hb : bodyG s p = bodyG s p := rfl
    unfold bodyG at hb
    obtain ⟨a, rfl⟩ : ∃ a : Nat, p = a := ⟨p.toNat, by omega⟩
    conv at hb => lhs; rw [if_neg h1, Int.toNat_natCast]
    have ha0 : ¬ (a : Int) < 0 := by omega
    have ha1 : ¬ (s.size : Int) < (a : Int) := by omega
    clear h1
    by_cases h2 : s.size < a + 8
    · rw [if_pos h2] at hb
      have hD : decG s a = (zeroN, [], 0, 2) := decG_err (by rw [show bodyG s a = _ from hb.symm]) (by decide)
      rw [hD]
      have h2i : (s.size : Int) - (a : Int) < 8 := by omega
      clear hD hb h2
      go_enter Tryd.func18, Tryd.ntmps18
      go_wp2_with fail
      refine bodyPost_ret (v := .tuple #[.agg #[.int .i64 0, .int .i64 0, .int .i64 0, .int .i64 0, .int .i64 0, .slice none 0 0], .int .i64 0, .int .i64 2]) ?_ rfl ?_
      · exact rdc_result W.heap.size (bset_box HA.out.2 _ _ _ _ _ _) _ rfl rfl rfl
      · exact GotBt.zero (below_off HA.out.1 (bset_off _ _ _ _ _ _ _ _) (Nat.le_refl _))
    · rw [if_neg h2] at hb
      have h2i : ¬ (s.size : Int) - (a : Int) < 8 := by omega
      have c1 := fun w => rread_c s a 4 w (by omega)
      have c2 := fun w => rread_c s ((a + 4 : Nat) : Int) 4 w (by omega)
      rw [readG_in (by omega)] at c1 c2
      have hn := rd4_lt s a
      have hm := rd4_lt s (a + 4)
      unfold Tri at c1 c2
      have hq4 : ((a + 4 : Nat) : Int) = (a : Int) + 4 := by omega
      rw [hq4] at c2
      clear hq4
      by_cases h3 : 60000 < rd4 s a
      · rw [if_pos h3] at hb
        have hD : decG s a = (zeroN, [], 0, 3) := decG_err (by rw [show bodyG s a = _ from hb.symm]) (by decide)
        rw [hD]
        clear hD hb
        generalize rd4 s (a + 4) = m at *
        generalize rd4 s a = n at *
        have h3' : (60000 : Int) < (n : Int) := by omega
        clear h2 h3
        go_enter Tryd.func18, Tryd.ntmps18
        go_wp2_with fail
        (with_reducible refine (c1 _).mono ?_)
        rintro e w1 ⟨rfl, rfl⟩
        go_wp2_with fail
        (with_reducible refine (c2 _).mono ?_)
        rintro e w2 ⟨rfl, rfl⟩
        go_wp2_with fail
        refine bodyPost_ret (v := .tuple #[.agg #[.int .i64 0, .int .i64 0, .int .i64 0, .int .i64 0, .int .i64 0, .slice none 0 0], .int .i64 0, .int .i64 3]) ?_ rfl ?_
        · exact rdc_result W.heap.size (bset_box HA.out.2 _ _ _ _ _ _) _ rfl rfl rfl
        · exact GotBt.zero (below_off HA.out.1 (bset_off _ _ _ _ _ _ _ _) (Nat.le_refl _))
      · rw [if_neg h3] at hb
        have h3' : ¬ (60000 : Int) < (rd4 s a : Int) := by omega
        by_cases h4 : s.size < a + 8 + rd4 s a
        · rw [if_pos h4] at hb
          have hD : decG s a = (zeroN, [], 0, 2) := decG_err (by rw [show bodyG s a = _ from hb.symm]) (by decide)
          rw [hD]
          clear hD hb
          generalize rd4 s (a + 4) = m at *
          generalize rd4 s a = n at *
          have h4' : (s.size : Int) - (a : Int) - 8 < (n : Int) := by omega
          clear h2 h3 h4
          go_enter Tryd.func18, Tryd.ntmps18
          go_wp2_with fail
          (with_reducible refine (c1 _).mono ?_)
          rintro e w1 ⟨rfl, rfl⟩
          go_wp2_with fail
          (with_reducible refine (c2 _).mono ?_)
          rintro e w2 ⟨rfl, rfl⟩
          go_wp2_with fail
          refine bodyPost_ret (v := .tuple #[.agg #[.int .i64 0, .int .i64 0, .int .i64 0, .int .i64 0, .int .i64 0, .slice none 0 0], .int .i64 0, .int .i64 2]) ?_ rfl ?_
          · exact rdc_result W.heap.size (bset_box HA.out.2 _ _ _ _ _ _) _ rfl rfl rfl
          · exact GotBt.zero (below_off HA.out.1 (bset_off _ _ _ _ _ _ _ _) (Nat.le_refl _))
        · rw [if_neg h4] at hb
          have hsl := fun w => slice_str (P := Tryd.prog) w 9 s (a + 8) (a + 8 + rd4 s a) Tryd.underlying9 (by omega) (by omega)
          have cs := fun w => CR.rsum_c (s.extract (a + 8) (a + 8 + rd4 s a)) w (by unfold maxLen; rw [ByteArray.size_extract]; omega)
          change ∀ w, Calls _ _ _ _ (fun e w' => e = .returned (.int .u32 (sumN (s.extract (a + 8) (a + 8 + rd4 s a)) : Nat)) ∧ w = w') at cs
          have hts : (s.extract (a + 8) (a + 8 + rd4 s a)).size ≤ 60000 := by rw [ByteArray.size_extract]; omega
          have hsm := sumN_lt (s.extract (a + 8) (a + 8 + rd4 s a))
          have hq8 : ((a + 8 : Nat) : Int) = (a : Int) + 8 := by omega
          have hqn : ((a + 8 + rd4 s a : Nat) : Int) = (a : Int) + 8 + (rd4 s a : Int) := by omega
          rw [hq8, hqn] at hsl
          rw [hqn] at hb
          clear hq8 hqn
          have HD0 : Hid (∀ t q, (bodyG s a) = (t, q, 0) → decG s a = if unpB t = true then (nbn (nrd t 6).1, (recN t).1, q, 0) else (zeroN, [], 0, 3)) := Lib.hid (fun t q h => by
            unfold decG
            rw [h]
            simp)
          generalize s.extract (a + 8) (a + 8 + rd4 s a) = t at *
          generalize rd4 s (a + 4) = m at *
          generalize rd4 s a = n at *
          have h4' : ¬ (s.size : Int) - (a : Int) - 8 < (n : Int) := by omega
          clear h2 h3 h4
          by_cases h5 : sumN t = m
          · rw [if_neg (by omega)] at hb
            have hD := HD0.out t _ hb.symm
            rw [hD]
            have ci := fun w => inner_c t w hts
            clear hD hb HD0
            generalize sumN t = sm at *
            subst h5
            cases hu : unpB t with
            | false =>
              rw [hu] at ci
              rw [if_neg (by decide)]
              clear hu
              go_enter Tryd.func18, Tryd.ntmps18
              go_wp2_with fail
              (with_reducible refine (c1 _).mono ?_)
              rintro e w1 ⟨rfl, rfl⟩
              go_wp2_with fail
              (with_reducible refine (c2 _).mono ?_)
              rintro e w2 ⟨rfl, rfl⟩
              go_wp2_with fail
              (with_reducible refine (cs _).mono ?_)
              rintro e w3 ⟨rfl, rfl⟩
              go_wp2_with fail
              (with_reducible refine (ci _).mono ?_)
              rintro en w4 ⟨b', A, k, c, rfl, hok, hb4⟩
              have HA1 := Lib.hid (And.intro (HA.out.1.trans (hb4.mono HA.out.1.size)) (HA.out.2.later hb4))
              clear hb4 ci HA hok y0 y1 y2 y3 y4 y5 f0 f1 f2 f3 f4 f5
              obtain ⟨base, span, prod, epoch, seq⟩ := b'
              unfold bnC
              simp only
              have HA3 := Lib.hid (And.intro (HA1.out.1.alloc HA1.out.1.size (.cells #[.int .i64 base, .int .i64 span, .int .i64 prod, .int .i64 epoch, .int .i64 seq, .slice A k c] 24)) (HA1.out.2.alloc (.cells #[.int .i64 base, .int .i64 span, .int .i64 prod, .int .i64 epoch, .int .i64 seq, .slice A k c] 24)))
              obtain ⟨y0, y1, y2, y3, y4, y5, f0, f1, f2, f3, f4, f5⟩ := box_six HA3.out.2
              go_wp2_with fail
              refine bodyPost_ret (v := .tuple #[.agg #[.int .i64 0, .int .i64 0, .int .i64 0, .int .i64 0, .int .i64 0, .slice none 0 0], .int .i64 0, .int .i64 3]) ?_ rfl ?_
              · exact rdc_result W.heap.size (bset_box HA3.out.2 _ _ _ _ _ _) _ rfl rfl rfl
              · exact GotBt.zero (below_off HA3.out.1 (bset_off _ _ _ _ _ _ _ _) (Nat.le_refl _))
            | true =>
              rw [hu] at ci
              rw [if_pos rfl]
              clear hu
              go_enter Tryd.func18, Tryd.ntmps18
              go_wp2_with fail
              (with_reducible refine (c1 _).mono ?_)
              rintro e w1 ⟨rfl, rfl⟩
              go_wp2_with fail
              (with_reducible refine (c2 _).mono ?_)
              rintro e w2 ⟨rfl, rfl⟩
              go_wp2_with fail
              (with_reducible refine (cs _).mono ?_)
              rintro e w3 ⟨rfl, rfl⟩
              go_wp2_with fail
              (with_reducible refine (ci _).mono ?_)
              rintro en w4 ⟨b', A, k, c, rfl, hok, hb4⟩
              obtain ⟨rfl, L, hLR, hnL, hrow⟩ := hok rfl
              subst hnL
              have HA2 := Lib.hid (And.intro (HA.out.1.trans (hb4.mono HA.out.1.size)) (HA.out.2.later hb4))
              have HR2 := Lib.hid (hrow.base HA.out.1.size)
              clear hb4 ci HA hok hrow y0 y1 y2 y3 y4 y5 f0 f1 f2 f3 f4 f5
              have HLR := Lib.hid hLR
              clear hLR
              generalize nbn (nrd t 6).1 = bb at *
              obtain ⟨base, span, prod, epoch, seq⟩ := bb
              unfold bnC
              simp only
              have hal2 : Below w4.heap.size w4 (w4.alloc (.cells #[.int .i64 base, .int .i64 span, .int .i64 prod, .int .i64 epoch, .int .i64 seq, .slice A L.length c] 24)) := (Below.refl _ _).alloc (Nat.le_refl _) _
              have HA3 := Lib.hid (And.intro (HA2.out.1.alloc HA2.out.1.size (.cells #[.int .i64 base, .int .i64 span, .int .i64 prod, .int .i64 epoch, .int .i64 seq, .slice A L.length c] 24)) (HA2.out.2.alloc (.cells #[.int .i64 base, .int .i64 span, .int .i64 prod, .int .i64 epoch, .int .i64 seq, .slice A L.length c] 24)))
              have HR3 := Lib.hid (HR2.out.later hal2)
              clear hal2
              obtain ⟨y0, y1, y2, y3, y4, y5, f0, f1, f2, f3, f4, f5⟩ := box_six HA3.out.2
              go_wp2_with fail
              refine bodyPost_ret (v := .tuple #[.agg #[.int .i64 base, .int .i64 span, .int .i64 prod, .int .i64 epoch, .int .i64 seq, .slice A L.length c], .int .i64 ((a : Int) + 8 + (n : Int)), .int .i64 0]) ?_ rfl ?_
              · exact rdc_result W.heap.size (bset_box HA3.out.2 _ _ _ _ _ _) _ rfl rfl rfl
              · exact ⟨L, A, c, HLR.out, rfl, HR3.out.bset HA3.out.2 (by decide) (by decide) _ _ _ _ _ _, below_off HA3.out.1 (bset_off _ _ _ _ _ _ _ _) (Nat.le_refl _)⟩
          · rw [if_pos h5] at hb
            have hD : decG s a = (zeroN, [], 0, 4) := decG_err (by rw [show bodyG s a = _ from hb.symm]) (by decide)
            rw [hD]
            clear hD hb HD0
            generalize sumN t = sm at *
            have h5' : ((sm : Int) == (m : Int)) = false := by rw [beq_eq_false_iff_ne]; omega
            go_enter Tryd.func18, Tryd.ntmps18
            go_wp2_with fail
            (with_reducible refine (c1 _).mono ?_)
            rintro e w1 ⟨rfl, rfl⟩
            go_wp2_with fail
            (with_reducible refine (c2 _).mono ?_)
            rintro e w2 ⟨rfl, rfl⟩
            go_wp2_with fail
            (with_reducible refine (cs _).mono ?_)
            rintro e w3 ⟨rfl, rfl⟩
            go_wp2_with fail
            refine bodyPost_ret (v := .tuple #[.agg #[.int .i64 0, .int .i64 0, .int .i64 0, .int .i64 0, .int .i64 0, .slice none 0 0], .int .i64 0, .int .i64 4]) ?_ rfl ?_
            · exact rdc_result W.heap.size (bset_box HA.out.2 _ _ _ _ _ _) _ rfl rfl rfl
            · exact GotBt.zero (below_off HA.out.1 (bset_off _ _ _ _ _ _ _ _) (Nat.le_refl _))
end Go.Proofs.YtmhamfhhojmeoaaDoor
/- The document's SameAll of batches, at two readings of one list: true; by contracts. -/
namespace Go.Proofs.YtmhamfhhojmeoaaDoor
open Go.RowKit
set_option linter.unusedVariables false
def BxAt (w : World) (b o : Nat) (x : BX) : Prop :=
  w.cell? ⟨b, o, none⟩ = some (.int .i64 x.1.base) ∧ w.cell? ⟨b, o + 1, none⟩ = some (.int .i64 x.1.span) ∧ w.cell? ⟨b, o + 2, none⟩ = some (.int .i64 x.1.prod) ∧ w.cell? ⟨b, o + 3, none⟩ = some (.int .i64 x.1.epoch) ∧
    w.cell? ⟨b, o + 4, none⟩ = some (.int .i64 x.1.seq) ∧ w.cell? ⟨b, o + 5, none⟩ = some (.slice x.2.2.1 x.2.1.length x.2.2.2)
/-- A list of batches in memory. -/
def BsIn (w : World) (A : Option Addr) (L : List BX) : Prop :=
  0 < L.length → ∃ b off, A = some ⟨b, off, none⟩ ∧ b < w.heap.size ∧ ∀ j x, L[j]? = some x → BxAt w b (off + j * 6) x ∧ RsIn w x.2.2.1 x.2.1
theorem BxAt.below {w w' : World} {b o : Nat} {x : BX} (h : BxAt w b o x) (hl : b < w.heap.size) (hb : Below w.heap.size w w') : BxAt w' b o x := by
  obtain ⟨h0, h1, h2, h3, h4, h5⟩ := h
  have c := fun i => hb.cell (p := ⟨b, i, none⟩) hl
  exact ⟨(c _).trans h0, (c _).trans h1, (c _).trans h2, (c _).trans h3, (c _).trans h4, (c _).trans h5⟩
theorem BsIn.below {w w' : World} {A : Option Addr} {L : List BX} (h : BsIn w A L) (hb : Below w.heap.size w w') : BsIn w' A L := fun hp => by
  obtain ⟨b, off, e, hlt, hc⟩ := h hp
  exact ⟨b, off, e, Nat.lt_of_lt_of_le hlt hb.size, fun j x hx => ⟨(hc j x hx).1.below hlt hb, (hc j x hx).2.below hb⟩⟩
theorem batsC_at : ∀ {L : List BX} {j i : Nat} {x : BX}, L[j]? = some x → i < 6 → (batsC L)[j * 6 + i]? = (bnC x.1 (.slice x.2.2.1 x.2.1.length x.2.2.2))[i]?
  | [], j, i, x, h, _ => by cases h
  | y :: l, 0, i, x, h, hi => by
    have e : y = x := by simpa using h
    subst e
    have hl : (bnC y.1 (.slice y.2.2.1 y.2.1.length y.2.2.2)).toList.length = 6 := rfl
    show ((bnC y.1 (.slice y.2.2.1 y.2.1.length y.2.2.2)).toList ++ batsC l)[0 * 6 + i]? = _
    rw [List.getElem?_append_left (by omega), Nat.zero_mul, Nat.zero_add, Array.getElem?_toList]
  | y :: l, j + 1, i, x, h, hi => by
    have hl : (bnC y.1 (.slice y.2.2.1 y.2.1.length y.2.2.2)).toList.length = 6 := rfl
    show ((bnC y.1 (.slice y.2.2.1 y.2.1.length y.2.2.2)).toList ++ batsC l)[(j + 1) * 6 + i]? = _
    rw [List.getElem?_append_right (by omega), hl, show (j + 1) * 6 + i - 6 = j * 6 + i by omega]
    exact batsC_at (by simpa using h) hi
/-- A row of batches of the call's own is a list in memory, where the records may be. -/
theorem BtsR.bsin {w : World} {base c : Nat} {A : Option Addr} {L : List BX} (h : BtsR w base (.slice A L.length c) L) (hok : ∀ x ∈ L, ∀ y ∈ x.2.1, okRec y.1 = true) : BsIn w A L := fun hp => by
  have hrow := h.row
  rcases hrow.2 with ⟨hv, h0⟩ | ⟨g, cap, cur, hv, hg, hh, h4, h5, h6, h7⟩
  · omega
  · injection hv with e1 _ _
    refine ⟨g, 0, e1, lt_of_there hh, fun j x hx => ?_⟩
    have hj : j < L.length := (List.getElem?_eq_some_iff.1 hx).1
    have k : ∀ i, i < 6 → w.cell? ⟨g, 0 + j * 6 + i, none⟩ = (batsC L)[j * 6 + i]? := fun i hi => by
      subst e1
      have := hrow.cellAt (j * 6 + i) (by omega)
      rw [show 0 + j * 6 + i = j * 6 + i by omega]
      exact this
    have k2 : ∀ i, i < 6 → (batsC L)[j * 6 + i]? = (bnC x.1 (.slice x.2.2.1 x.2.1.length x.2.2.2))[i]? := fun i hi => batsC_at hx hi
    have hm := List.mem_of_getElem? hx
    refine ⟨⟨?_, ?_, ?_, ?_, ?_, ?_⟩, (h.recs x hm).rsin (hok x hm)⟩
    · exact (k 0 (by decide)).trans ((k2 0 (by decide)).trans rfl)
    · exact (k 1 (by decide)).trans ((k2 1 (by decide)).trans rfl)
    · exact (k 2 (by decide)).trans ((k2 2 (by decide)).trans rfl)
    · exact (k 3 (by decide)).trans ((k2 3 (by decide)).trans rfl)
    · exact (k 4 (by decide)).trans ((k2 4 (by decide)).trans rfl)
    · exact (k 5 (by decide)).trans ((k2 5 (by decide)).trans rfl)
def Sm5 (W : World) (b o b' o' : Nat) (n : BN) (X Y : List RX) (A B : Option Addr) (c d : Nat) (w : World) : Prop :=
  BxAt w b o (n, X, A, c) ∧ BxAt w b' o' (n, Y, B, d) ∧ b < w.heap.size ∧ b' < w.heap.size ∧ RsIn w A X ∧ RsIn w B Y ∧ Below W.heap.size W w
theorem Sm5.later {W w w' : World} {b o b' o' : Nat} {n : BN} {X Y : List RX} {A B : Option Addr} {c d : Nat} (h : Sm5 W b o b' o' n X Y A B c d w) (hb : Below w.heap.size w w') : Sm5 W b o b' o' n X Y A B c d w' := by
  obtain ⟨h1, h2, h3, h4, h5, h6, h7⟩ := h
  exact ⟨h1.below h3 hb, h2.below h4 hb, Nat.lt_of_lt_of_le h3 hb.size, Nat.lt_of_lt_of_le h4 hb.size, h5.below hb, h6.below hb, h7.trans (hb.mono h7.size)⟩
theorem Sm5.out (W : World) (b o b' o' : Nat) (base span prod epoch seq : Int) (X Y : List RX) (A1 B1 : Option Addr) (c1 d1 : Nat) (w : World) : Sm5 W b o b' o' ⟨base, span, prod, epoch, seq⟩ X Y A1 B1 c1 d1 w ↔
    (w.cell? ⟨b, o, none⟩ = some (.int .i64 base) ∧ w.cell? ⟨b, o + 1, none⟩ = some (.int .i64 span) ∧ w.cell? ⟨b, o + 2, none⟩ = some (.int .i64 prod) ∧ w.cell? ⟨b, o + 3, none⟩ = some (.int .i64 epoch) ∧ w.cell? ⟨b, o + 4, none⟩ = some (.int .i64 seq) ∧ w.cell? ⟨b, o + 5, none⟩ = some (.slice A1 X.length c1) ∧ w.cell? ⟨b', o', none⟩ = some (.int .i64 base) ∧ w.cell? ⟨b', o' + 1, none⟩ = some (.int .i64 span) ∧ w.cell? ⟨b', o' + 2, none⟩ = some (.int .i64 prod) ∧ w.cell? ⟨b', o' + 3, none⟩ = some (.int .i64 epoch) ∧ w.cell? ⟨b', o' + 4, none⟩ = some (.int .i64 seq) ∧ w.cell? ⟨b', o' + 5, none⟩ = some (.slice B1 Y.length d1) ∧ b < w.heap.size ∧ b' < w.heap.size ∧ RsIn w A1 X ∧ RsIn w B1 Y ∧ Below W.heap.size W w) := by
  unfold Sm5 BxAt
  simp only [and_assoc]
set_option maxHeartbeats 8000000 in
set_option maxRecDepth 100000 in
theorem rsameAll5_c (L M : List BX) (A B : Option Addr) (c d : Nat) (W : World) (hA : BsIn W A L) (hB : BsIn W B M) (he : L.map BX.told = M.map BX.told) (h50 : L.length ≤ 140737488351232) (hh : ∀ x ∈ L, x.2.1.length ≤ 1000 ∧ ∀ y ∈ x.2.1, y.1.heads.length ≤ 1000) :
    Calls Tryd.prog 21 #[.slice A L.length c, .slice B M.length d] W (Good W (.bool true)) := by
  have hlen : M.length = L.length := by have := congrArg List.length he; simpa using this.symm
  rw [hlen]
  have HAB := Lib.hid (And.intro hA hB)
  have HE := Lib.hid (And.intro he hlen)
  clear hA hB he hlen
  go_enter Tryd.func21, Tryd.ntmps21
  go_wp2
  go_loopw [5] (fun i wr => ∃ k : Nat, i = .int .i64 k ∧ k ≤ L.length ∧ Below W.heap.size W wr) (fun i _ => L.length - (intOf i).toNat)
  case atStart => exact ⟨0, rfl, Nat.zero_le _, Below.refl _ _⟩
  case round =>
    obtain ⟨k, rfl, hkl, hS⟩ := hrel
    by_cases hk : k < L.length
    · obtain ⟨x, hx⟩ : ∃ x, L[k]? = some x := ⟨_, List.getElem?_eq_getElem hk⟩
      obtain ⟨y, hy⟩ : ∃ y, M[k]? = some y := ⟨_, List.getElem?_eq_getElem (by have := HE.out.2; omega)⟩
      have hxy : x.told = y.told := by
        have := congrArg (fun l => l[k]?) HE.out.1
        simpa [List.getElem?_map, hx, hy] using this
      obtain ⟨b, off, rfl, hbl, hca⟩ := (HAB.out.1.below hS) (by omega)
      obtain ⟨b', off', rfl, hbl', hcb⟩ := (HAB.out.2.below hS) (by have := HE.out.2; omega)
      obtain ⟨qa, ra⟩ := hca k x hx
      obtain ⟨qb, rb⟩ := hcb k y hy
      obtain ⟨hxl, hxh⟩ := hh x (List.mem_of_getElem? hx)
      obtain ⟨n, X, A1, c1⟩ := x
      obtain ⟨n', Y, B1, d1⟩ := y
      unfold BX.told at hxy
      simp only [Prod.mk.injEq] at hxy
      obtain ⟨rfl, hXY⟩ := hxy
      have hs : Sm5 W b (off + k * 6) b' (off' + k * 6) n X Y A1 B1 c1 d1 wr := ⟨qa, qb, hbl, hbl', ra, rb, hS⟩
      have cs := fun w (h1 : RsIn w A1 X) (h2 : RsIn w B1 Y) => rsame5_c n X Y A1 B1 c1 d1 w h1 h2 hXY hxl hxh
      have hstep := fun w w' (h : Sm5 W b (off + k * 6) b' (off' + k * 6) n X Y A1 B1 c1 d1 w) hb => Sm5.later (w' := w') h hb
      obtain ⟨base, span, prod, epoch, seq⟩ := n
      unfold bnC at cs
      simp only at cs
      simp only [Sm5.out] at hs hstep
      have HK := Lib.hid hk
      have hki : (k : Int) < (L.length : Int) := by omega
      have hk0 : (0 : Int) ≤ (k : Int) := by omega
      clear hca hcb qa qb ra rb hx hy hxl hxh hXY hh hbl hbl' hS
      obtain ⟨x0, x1, x2, x3, x4, x5, y0, y1, y2, y3, y4, y5, hs5⟩ := id hs
      go_wp2_with fail
      go_region_held3 (fun w => w.cell? ⟨b, off + k * 6, none⟩ = some (.int .i64 base) ∧ w.cell? ⟨b, off + k * 6 + 1, none⟩ = some (.int .i64 span) ∧ w.cell? ⟨b, off + k * 6 + 2, none⟩ = some (.int .i64 prod) ∧ w.cell? ⟨b, off + k * 6 + 3, none⟩ = some (.int .i64 epoch) ∧ w.cell? ⟨b, off + k * 6 + 4, none⟩ = some (.int .i64 seq) ∧ w.cell? ⟨b, off + k * 6 + 5, none⟩ = some (.slice A1 X.length c1) ∧ w.cell? ⟨b', off' + k * 6, none⟩ = some (.int .i64 base) ∧ w.cell? ⟨b', off' + k * 6 + 1, none⟩ = some (.int .i64 span) ∧ w.cell? ⟨b', off' + k * 6 + 2, none⟩ = some (.int .i64 prod) ∧ w.cell? ⟨b', off' + k * 6 + 3, none⟩ = some (.int .i64 epoch) ∧ w.cell? ⟨b', off' + k * 6 + 4, none⟩ = some (.int .i64 seq) ∧ w.cell? ⟨b', off' + k * 6 + 5, none⟩ = some (.slice B1 Y.length d1) ∧ b < w.heap.size ∧ b' < w.heap.size ∧ RsIn w A1 X ∧ RsIn w B1 Y ∧ Below W.heap.size W w)
        (first | exact hstep _ _ hs ((Below.refl _ _).drew) | exact hstep _ _ (by assumption) (by assumption))
        (first | ((with_reducible refine (cs _ (by first | assumption | exact hs5.2.2.1.below ((Below.refl _ _).drew)) (by first | assumption | exact hs5.2.2.2.1.below ((Below.refl _ _).drew))).mono ?_); rintro e w2 ⟨rfl, hb2⟩))
      all_goals go_wp2_with fail
      all_goals go_roundw
      case rel => exact ⟨k + 1, by go_num, HK.out, hs5.2.2.2.2.trans ((((Below.refl _ _).drew).trans hb2).mono (by have := hs5.2.2.2.2.size; simpa using this))⟩
      case measure => simp [intOf]; omega
    · go_wp2
      go_ret
      exact ⟨rfl, hS⟩
end Go.Proofs.YtmhamfhhojmeoaaDoor
/- live: some answers that the document gives. Condition: the table of sums. -/
namespace Go.Proofs.YtmhamfhhojmeoaaDoor
open Go.RowKit
set_option linter.unusedVariables false
def liveR5 : Rec := ⟨0, 0, false, ⟨#[107]⟩, false, ⟨#[118]⟩, []⟩
def liveN5 : BN := ⟨5, 1, -1, -1, -1⟩
def liveX5 : List RX := [(liveR5, none, 0)]
def liveS5 : ByteArray := ⟨#[0, 0, 0, 14, 149, 218, 129, 3, 10, 2, 1, 1, 1, 2, 0, 0, 0, 2, 107, 2, 118, 0]⟩
theorem live_enc : encV liveN5 liveX5 = .tuple #[.string liveS5, .int .i64 0] := by kernel_rfl
theorem live_zero : encV ⟨0, 0, 0, 0, 0⟩ [] = .tuple #[.string ⟨#[]⟩, .int .i64 1] := by kernel_rfl
theorem live_bat : batE liveN5 liveX5 = 0 := by kernel_rfl
theorem live_dec : decG liveS5 0 = (liveN5, [liveR5], 22, 0) := by kernel_rfl
theorem live_scan : scanG (liveS5 ++ liveS5.extract 0 9) 32 0 = ([(liveN5, [liveR5])], 22) := by kernel_rfl
theorem live_size : (liveS5 ++ liveS5.extract 0 9).size = 31 := by kernel_rfl
theorem liveS5_size : liveS5.size = 22 := rfl
theorem live_ok : okRec liveR5 = true := by decide +kernel
theorem live_rs {w : World} {b : Nat} (h : Box w b 49 #[.int .i64 0, .int .i64 0, .bool false, .string ⟨#[107]⟩, .bool false, .string ⟨#[118]⟩, .slice none 0 0]) : RsIn w (some ⟨b, 0, none⟩) liveX5 := fun _ => by
  refine ⟨b, 0, rfl, h.lt, fun j x hx => ?_⟩
  unfold liveX5 at hx
  match j, hx with
  | 0, hx =>
    obtain rfl : (liveR5, none, 0) = x := by simpa using hx
    refine ⟨⟨?_, ?_, ?_, ?_, ?_, ?_, ?_⟩, HIn.nil _ _, by decide, by decide, by decide, fun h hh => by cases hh⟩
    · exact (h.cell 0).trans rfl
    · exact (h.cell 1).trans rfl
    · exact (h.cell 2).trans rfl
    · exact (h.cell 3).trans rfl
    · exact (h.cell 4).trans rfl
    · exact (h.cell 5).trans rfl
    · exact (h.cell 6).trans rfl
set_option maxHeartbeats 8000000 in
set_option maxRecDepth 100000 in
theorem live5_c (W : World) (hT : Tab W) : Calls Tryd.prog 10 #[] W (Good W (.bool true)) := by
  obtain ⟨W1, hW1⟩ : ∃ w, (W.alloc (.cells #[.int .i64 0, .int .i64 0, .bool false, .string ⟨#[107]⟩, .bool false, .string ⟨#[118]⟩, .slice none 0 0] 49)).alloc (.cells #[.int .i64 5, .int .i64 1, .int .i64 (-1), .int .i64 (-1), .int .i64 (-1), .slice (some ⟨W.heap.size, 0, none⟩) 1 1] 24) = w := ⟨_, rfl⟩
  have hb1 : Below W.heap.size W W1 := by
    rw [← hW1]
    exact ((Below.refl _ W).alloc (Nat.le_refl _) _).alloc (by simp) _
  have hr1 : Box W1 W.heap.size 49 #[.int .i64 0, .int .i64 0, .bool false, .string ⟨#[107]⟩, .bool false, .string ⟨#[118]⟩, .slice none 0 0] := by
    rw [← hW1]
    exact (Box.new W _ _).alloc _
  have hx1 : Box W1 (W.heap.size + 1) 24 #[.int .i64 5, .int .i64 1, .int .i64 (-1), .int .i64 (-1), .int .i64 (-1), .slice (some ⟨W.heap.size, 0, none⟩) 1 1] := by
    rw [← hW1]
    have := Box.new (W.alloc (.cells #[.int .i64 0, .int .i64 0, .bool false, .string ⟨#[107]⟩, .bool false, .string ⟨#[118]⟩, .slice none 0 0] 49)) 24 #[.int .i64 5, .int .i64 1, .int .i64 (-1), .int .i64 (-1), .int .i64 (-1), .slice (some ⟨W.heap.size, 0, none⟩) 1 1]
    rw [World.size_alloc] at this
    exact this
  have E1 : Hid (∀ w, Below W1.heap.size W1 w → Calls Tryd.prog 12 #[.agg #[.int .i64 5, .int .i64 1, .int .i64 (-1), .int .i64 (-1), .int .i64 (-1), .slice (some ⟨W.heap.size, 0, none⟩) 1 1]] w (Good w (.tuple #[.string liveS5, .int .i64 0]))) := Lib.hid (fun w hb => by
    have h := pencode_c liveN5 (some ⟨W.heap.size, 0, none⟩) 1 liveX5 w (live_rs (hr1.later hb)) (by decide) (hT.below (hb1.trans (hb.mono hb1.size)))
    rw [live_enc] at h
    exact h)
  have C1 : Hid (∀ w, Below W1.heap.size W1 w → Calls Tryd.prog 14 #[.agg #[.int .i64 5, .int .i64 1, .int .i64 (-1), .int .i64 (-1), .int .i64 (-1), .slice (some ⟨W.heap.size, 0, none⟩) 1 1]] w (Good w (.int .i64 0))) := Lib.hid (fun w hb => by
    have h := pcheck5_c liveN5 (some ⟨W.heap.size, 0, none⟩) 1 liveX5 w (live_rs (hr1.later hb)) (by decide)
    rw [live_bat] at h
    exact h)
  have Z1 : Hid (∀ w, Tab w → Calls Tryd.prog 12 #[.agg #[.int .i64 0, .int .i64 0, .int .i64 0, .int .i64 0, .int .i64 0, .slice none 0 0]] w (Good w (.tuple #[.string ⟨#[]⟩, .int .i64 1]))) := Lib.hid (fun w ht => by
    have h := pencode_c ⟨0, 0, 0, 0, 0⟩ none 0 [] w (fun hp => by cases hp) (by decide) ht
    rw [live_zero] at h
    exact h)
  have D1 : Hid (∀ w, Tab w → Calls Tryd.prog 17 #[.string liveS5, .int .i64 0] w (fun en w' => ∃ A c a n, en = .returned (.tuple #[.agg #[.int .i64 5, .int .i64 1, .int .i64 (-1), .int .i64 (-1), .int .i64 (-1), .slice A 1 c], .int .i64 22, .int .i64 0]) ∧ RsIn w' A [(liveR5, a, n)] ∧ Below w.heap.size w w')) := Lib.hid (fun w ht => by
    have h := pdecode5_c liveS5 0 w (by decide) ht
    rw [live_dec] at h
    refine h.mono fun en w' ⟨L, A, c, hL, he, hrow, hb⟩ => ?_
    have hl : L.length = 1 := by have := congrArg List.length hL; simpa using this
    obtain ⟨x, rfl⟩ : ∃ x, L = [x] := List.length_eq_one_iff.1 hl
    obtain ⟨r, a, n⟩ := x
    obtain rfl : r = liveR5 := by simpa using hL
    exact ⟨A, c, a, n, he, hrow.rsin (fun x hx => by
      have e : x = (liveR5, a, n) := by simpa using hx
      rw [e]
      exact live_ok), hb⟩)
  have S1 : Hid (∀ w, Tab w → Calls Tryd.prog 19 #[.string (liveS5 ++ liveS5.extract 0 9)] w (fun en w' => ∃ A c, en = .returned (.tuple #[.slice A 1 c, .int .i64 22]) ∧ Below w.heap.size w w')) := Lib.hid (fun w ht => by
    have h := pscan_c (liveS5 ++ liveS5.extract 0 9) w (by rw [live_size]; decide) ht
    rw [live_size, live_scan] at h
    refine h.mono fun en w' ⟨L, A, c, hL, he, hrow, hb⟩ => ?_
    have hl : L.length = 1 := by have := congrArg List.length hL; simpa using this
    rw [hl] at he
    exact ⟨A, c, he, hb⟩)
  have M1 : Hid (∀ w A c a n, Below W1.heap.size W1 w → RsIn w A [(liveR5, a, n)] → Calls Tryd.prog 16 #[.agg #[.int .i64 5, .int .i64 1, .int .i64 (-1), .int .i64 (-1), .int .i64 (-1), .slice (some ⟨W.heap.size, 0, none⟩) 1 1], .agg #[.int .i64 5, .int .i64 1, .int .i64 (-1), .int .i64 (-1), .int .i64 (-1), .slice A 1 c]] w (Good w (.bool true))) := Lib.hid (fun w A c a n hb hA =>
    rsame5_c liveN5 liveX5 [(liveR5, a, n)] (some ⟨W.heap.size, 0, none⟩) A 1 c w (live_rs (hr1.later hb)) hA rfl (by decide) (fun x hx => by
      have e : x = ((liveR5, none, 0) : RX) := by simpa [liveX5] using hx
      rw [e]
      decide))
  have HT := Lib.hid (fun w (hb : Below W1.heap.size W1 w) => hT.below (hb1.trans (hb.mono hb1.size)))
  have H1 := Lib.hid (And.intro hb1 hx1)
  have k1 : ∀ w, (Op.stringOp .add liveS5 (liveS5.extract 0 9)).run Tryd.prog w = .ok (.string (liveS5 ++ liveS5.extract 0 9)) w := fun w => run_string_add_sum (w := w) _ _ (by decide)
  have k2 : ∀ w, (Instr.slice 9 (.string liveS5) none (some (.int .i64 9)) none).run Tryd.prog w = .ok (.string (liveS5.extract 0 9)) w := fun w => by kernel_rfl
  have z22 : liveS5.size = 22 := rfl
  obtain ⟨x0, x1, x2, x3, x4, x5, _, _, _, _, _, _⟩ := box_six hx1
  clear hb1 hr1 hx1 hT
  go_enter Tryd.func10, Tryd.ntmps10
  go_wp2_with fail
  (with_reducible refine (E1.out _ (Below.refl _ _)).mono ?_)
  rintro en w2 ⟨rfl, hb2⟩
  have H2 := Lib.hid hb2
  clear hb2 x0 x1 x2 x3 x4 x5 hW1
  go_wp2_with fail
  (with_reducible refine (D1.out _ (HT.out _ H2.out)).mono ?_)
  rintro en w3 ⟨A, c, a, n, rfl, hrs, hb3⟩
  have hb3' := H2.out.trans (hb3.mono H2.out.size)
  have hbx := Box.new w3 24 #[.int .i64 5, .int .i64 1, .int .i64 (-1), .int .i64 (-1), .int .i64 (-1), .slice A 1 c]
  have hal := (Below.refl w3.heap.size w3).alloc (Nat.le_refl _) (.cells #[.int .i64 5, .int .i64 1, .int .i64 (-1), .int .i64 (-1), .int .i64 (-1), .slice A 1 c] 24)
  have H3 := Lib.hid (And.intro (hb3'.trans (hal.mono hb3'.size)) (And.intro hbx (hrs.below hal)))
  clear hb3 hb3' hbx hal hrs H2
  go_wp2_with fail
  rw [show (min (22 : Int) 9).toNat = 9 by decide +kernel]
  (with_reducible refine (S1.out _ (HT.out _ H3.out.1)).mono ?_)
  rintro en w4 ⟨A4, c4, rfl, hb4⟩
  have H4 := Lib.hid (And.intro (H3.out.1.trans (hb4.mono H3.out.1.size)) (And.intro (H3.out.2.1.later hb4) (H3.out.2.2.below hb4)))
  clear hb4 H3
  go_wp2_with fail
  (with_reducible refine (Z1.out _ (HT.out _ H4.out.1)).mono ?_)
  rintro en w5 ⟨rfl, hb5⟩
  have H5 := Lib.hid (And.intro (H4.out.1.trans (hb5.mono H4.out.1.size)) (And.intro (H4.out.2.1.later hb5) (H4.out.2.2.below hb5)))
  clear hb5 H4
  obtain ⟨x0, x1, x2, x3, x4, x5, _, _, _, _, _, _⟩ := box_six (H1.out.2.later H5.out.1)
  obtain ⟨y0, y1, y2, y3, y4, y5, _, _, _, _, _, _⟩ := box_six H5.out.2.1
  go_wp2_with fail
  (with_reducible refine (M1.out _ _ _ _ _ H5.out.1 H5.out.2.2).mono ?_)
  rintro en w6 ⟨rfl, hb6⟩
  have H6 := Lib.hid (H5.out.1.trans (hb6.mono H5.out.1.size))
  obtain ⟨q0, q1, q2, q3, q4, q5, _, _, _, _, _, _⟩ := box_six (H1.out.2.later H6.out)
  clear hb6 x0 x1 x2 x3 x4 x5 y0 y1 y2 y3 y4 y5
  go_wp2_with fail
  (with_reducible refine (C1.out _ H6.out).mono ?_)
  rintro en w7 ⟨rfl, hb7⟩
  have H7 := Lib.hid (H1.out.1.trans ((H6.out.trans (hb7.mono H6.out.size)).mono H1.out.1.size))
  clear hb7 q0 q1 q2 q3 q4 q5
  go_wp2_with fail
  go_ret
  exact ⟨rfl, H7.out⟩
end Go.Proofs.YtmhamfhhojmeoaaDoor

/- The document's Small of a batch: what it says when it says yes. -/
namespace Go.Proofs.YtmhamfhhojmeoaaDoor
open Go.RowKit
set_option linter.unusedVariables false
def smallR (r : Rec) : Prop := r.heads.length ≤ 12 ∧ r.key.size ≤ 3000 ∧ r.value.size ≤ 3000 ∧ ∀ h ∈ r.heads, h.1.size ≤ 3000 ∧ h.2.size ≤ 3000
def SmallL (L : List RX) : Prop := L.length ≤ 50 ∧ ∀ x ∈ L, smallR x.1
def GotSm (W : World) (L : List RX) (en : Ending) (w' : World) : Prop := ∃ res, en = .returned (.bool res) ∧ (res = true → SmallL L) ∧ Below W.heap.size W w'
structure SmlS (W : World) (cs : Array Value) (L : List RX) (k : Nat) (w : World) : Prop where
  box : Box w W.heap.size 24 cs
  bel : Below W.heap.size W w
  all : ∀ x ∈ L.take k, smallR x.1
theorem SmlS.later {W w w' : World} {cs : Array Value} {L : List RX} {k : Nat} (h : SmlS W cs L k w) (hb : Below w.heap.size w w') : SmlS W cs L k w' := ⟨h.box.later hb, h.bel.trans (hb.mono h.bel.size), h.all⟩
theorem SmlS.next {W w w' : World} {cs : Array Value} {L : List RX} {k : Nat} {x : RX} (h : SmlS W cs L k w) (hb : Below w.heap.size w w') (hx : L[k]? = some x) (hs : smallR x.1) : SmlS W cs L (k + 1) w' := by
  refine ⟨(h.later hb).box, (h.later hb).bel, fun y hy => ?_⟩
  obtain ⟨hk, he⟩ := List.getElem?_eq_some_iff.1 hx
  rw [List.take_succ_eq_append_getElem hk, List.mem_append] at hy
  rcases hy with hy | hy
  · exact h.all y hy
  · simp at hy
    subst hy
    rw [he]; exact hs
/-- The inner loop's state. -/
structure SmhS (w0 : World) (g : Nat) (cs : Array Value) (A : Option Addr) (hs : List Hd) (k : Nat) (w : World) : Prop where
  box : Box w g 49 cs
  bel : Below w0.heap.size w0 w
  rin : HIn w A hs
  all : ∀ h ∈ hs.take k, h.1.size ≤ 3000 ∧ h.2.size ≤ 3000
theorem SmhS.later {w0 w w' : World} {g : Nat} {cs : Array Value} {A : Option Addr} {hs : List Hd} {k : Nat} (h : SmhS w0 g cs A hs k w) (hb : Below w.heap.size w w') : SmhS w0 g cs A hs k w' := ⟨h.box.later hb, h.bel.trans (hb.mono h.bel.size), h.rin.below hb, h.all⟩
theorem SmhS.next {w0 w : World} {g : Nat} {cs : Array Value} {A : Option Addr} {hs : List Hd} {k : Nat} (h : SmhS w0 g cs A hs k w) (hk : k < hs.length) (h1 : hs[k].1.size ≤ 3000) (h2 : hs[k].2.size ≤ 3000) : SmhS w0 g cs A hs (k + 1) w := by
  refine ⟨h.box, h.bel, h.rin, fun y hy => ?_⟩
  rw [List.take_succ_eq_append_getElem hk, List.mem_append] at hy
  rcases hy with hy | hy
  · exact h.all y hy
  · simp at hy
    subst hy
    exact ⟨h1, h2⟩
set_option maxHeartbeats 16000000 in
set_option maxRecDepth 100000 in
theorem rsmall_c (b : BN) (L : List RX) (A : Option Addr) (c : Nat) (W : World) (hA : RsIn W A L) (hlen : L.length ≤ 140737488351232) :
    Calls Tryd.prog 9 #[.agg (bnC b (.slice A L.length c))] W (GotSm W L) := by
  obtain ⟨base, span, prod, epoch, seq⟩ := b
  unfold bnC
  simp only
  obtain ⟨W1, hW1⟩ : ∃ w, W.alloc (.cells #[.int .i64 base, .int .i64 span, .int .i64 prod, .int .i64 epoch, .int .i64 seq, .slice A L.length c] 24) = w := ⟨_, rfl⟩
  have hS0 : SmlS W #[.int .i64 base, .int .i64 span, .int .i64 prod, .int .i64 epoch, .int .i64 seq, .slice A L.length c] L 0 W1 := by
    rw [← hW1]
    exact ⟨Box.new W _ _, (Below.refl _ W).alloc (Nat.le_refl _) _, fun x hx => by simp at hx⟩
  have y5 := (hS0.box.cell 5).trans (show _ = some (Value.slice A L.length c) from rfl)
  have HS0 := Lib.hid hS0
  have HA := Lib.hid hA
  clear hS0 hA
  by_cases h50 : 50 < L.length
  · have h50' : (50 : Int) < (L.length : Int) := by omega
    go_enter Tryd.func9, Tryd.ntmps9
    go_wp2_with fail
    go_ret
    exact ⟨false, rfl, (fun e => by cases e), HS0.out.bel⟩
  have h50' : ¬ (50 : Int) < (L.length : Int) := by omega
  go_enter Tryd.func9, Tryd.ntmps9
  go_wp2_with fail
  clear hW1 y5 h50'
  go_loopw [3, 4] (fun n i wr => ∃ (k m : Nat), i = .int .i64 k ∧ k ≤ L.length ∧ n = .int .i64 m ∧ m ≤ 3000 ∧ SmlS W #[.int .i64 base, .int .i64 span, .int .i64 prod, .int .i64 epoch, .int .i64 seq, .slice A L.length c] L k wr) (fun _ i _ => L.length - (intOf i).toNat)
  case atStart => exact ⟨0, 0, rfl, Nat.zero_le _, rfl, by omega, HS0.out⟩
  case round =>
    obtain ⟨k, m, rfl, hkl, rfl, hm, hS⟩ := hrel
    clear HS0
    have y5 := (hS.box.cell 5).trans (show _ = some (Value.slice A L.length c) from rfl)
    have HS := Lib.hid hS
    by_cases hk : k < L.length
    · obtain ⟨x, hx⟩ : ∃ x, L[k]? = some x := ⟨_, List.getElem?_eq_getElem hk⟩
      obtain ⟨bb, off, rfl, hbl, hca⟩ := (HA.out.below hS.bel) (by omega)
      obtain ⟨⟨x0, x1, x2, x3, x4, x5, x6⟩, hR⟩ := hca k x hx
      have HN := Lib.hid (fun w' hb (hs : smallR x.1) => hS.next (w' := w') hb hx hs)
      clear hca hx hS hbl
      obtain ⟨⟨place, time, bare, key, gone, value, heads⟩, A1, c1⟩ := x
      have hki : (k : Int) < (L.length : Int) := by omega
      have hhl : heads.length ≤ 140737488351232 := hR.len
      have hkz : key.size ≤ 1152921504606846976 := hR.key
      have hvz : value.size ≤ 1152921504606846976 := hR.value
      have hez := hR.each
      simp only at x0 x1 x2 x3 x4 x5 x6 hez
      obtain ⟨w0, hw0⟩ : ∃ w, wr.alloc (.cells #[.int .i64 place, .int .i64 time, .bool bare, .string key, .bool gone, .string value, .slice A1 heads.length c1] 49) = w := ⟨_, rfl⟩
      have hb0 : Below wr.heap.size wr w0 := by rw [← hw0]; exact (Below.refl _ _).alloc (Nat.le_refl _) _
      have hH : SmhS w0 wr.heap.size #[.int .i64 place, .int .i64 time, .bool bare, .string key, .bool gone, .string value, .slice A1 heads.length c1] A1 heads 0 w0 := by
        refine ⟨by rw [← hw0]; exact Box.new _ _ _, Below.refl _ _, hR.heads.below hb0, fun h hh => by simp at hh⟩
      have r3 := (hH.box.cell 3).trans (show _ = some (Value.string key) from rfl)
      have r5 := (hH.box.cell 5).trans (show _ = some (Value.string value) from rfl)
      have r6 := (hH.box.cell 6).trans (show _ = some (Value.slice A1 heads.length c1) from rfl)
      have HH := Lib.hid (And.intro hb0 hH)
      have HF := Lib.hid (HS.out.later hb0).bel
      clear hb0 hH hR
      by_cases h12 : 12 < heads.length
      · have h12' : (12 : Int) < (heads.length : Int) := by omega
        go_wp2_with fail
        go_ret
        exact ⟨false, rfl, (fun e => by cases e), HF.out⟩
      have h12' : ¬ (12 : Int) < (heads.length : Int) := by omega
      by_cases h13 : 3000 < key.size
      · have h13' : (3000 : Int) < (key.size : Int) := by omega
        go_wp2_with fail
        go_ret
        exact ⟨false, rfl, (fun e => by cases e), HF.out⟩
      have h13' : ¬ (3000 : Int) < (key.size : Int) := by omega
      by_cases h14 : 3000 < value.size
      · have h14' : (3000 : Int) < (value.size : Int) := by omega
        go_wp2_with fail
        go_ret
        exact ⟨false, rfl, (fun e => by cases e), HF.out⟩
      have h14' : ¬ (3000 : Int) < (value.size : Int) := by omega
      go_wp2_with fail
      clear hw0 r3 r5 h12' h13' h14'
      go_loopw [3, 6] (fun n j w => ∃ (j2 n2 : Nat), j = .int .i64 j2 ∧ j2 ≤ heads.length ∧ n = .int .i64 n2 ∧ n2 ≤ 9000 ∧ SmhS w0 wr.heap.size #[.int .i64 place, .int .i64 time, .bool bare, .string key, .bool gone, .string value, .slice A1 heads.length c1] A1 heads j2 w) (fun _ j _ => heads.length - (intOf j).toNat)
      case atStart => exact ⟨0, m + key.size + value.size, rfl, Nat.zero_le _, by simp, by omega, HH.out.2⟩
      case round =>
        obtain ⟨j2, n2, rfl, hj2, rfl, hn2, hI⟩ := hrel
        have r6' := (hI.box.cell 6).trans (show _ = some (Value.slice A1 heads.length c1) from rfl)
        clear r6
        by_cases hj : j2 < heads.length
        · by_cases hn : n2 ≤ 3000
          · obtain ⟨hb2, ho2, rfl, hl2, q1, q2⟩ := hI.rin.at_ hj
            have ez := hez _ (List.getElem_mem hj)
            have HIN := Lib.hid hI
            have HNX := Lib.hid (hI.next hj)
            have HB2 := Lib.hid (HF.out.trans (hI.bel.mono HF.out.size))
            clear hI hez
            have hji : (j2 : Int) < (heads.length : Int) := by omega
            have hni : (n2 : Int) ≤ 3000 := by omega
            generalize heads[j2].1 = z1 at *
            generalize heads[j2].2 = z2 at *
            by_cases h15 : 3000 < z1.size
            · have h15' : (3000 : Int) < (z1.size : Int) := by omega
              go_wp2_with fail
              go_ret
              exact ⟨false, rfl, (fun e => by cases e), HB2.out⟩
            have h15' : ¬ (3000 : Int) < (z1.size : Int) := by omega
            by_cases h16 : 3000 < z2.size
            · have h16' : (3000 : Int) < (z2.size : Int) := by omega
              go_wp2_with fail
              go_ret
              exact ⟨false, rfl, (fun e => by cases e), HB2.out⟩
            have h16' : ¬ (3000 : Int) < (z2.size : Int) := by omega
            go_wp2_with fail
            go_quiet (fail)
            go_wp2_with fail
            go_roundw
            case rel => exact ⟨j2 + 1, n2 + z1.size + z2.size, by go_num, hj, by simp, by omega, (HNX.out (by omega) (by omega)).later ⟨rfl, rfl, rfl, Nat.le_refl _, fun _ _ => rfl⟩⟩
            case measure => simp [intOf]; omega
          · have hn' : ¬ (n2 : Int) ≤ 3000 := by omega
            have hji : (j2 : Int) < (heads.length : Int) := by omega
            have HB2 := Lib.hid (HF.out.trans (hI.bel.mono HF.out.size))
            have hn3 : (3000 : Int) < (n2 : Int) := by omega
            clear hI hez
            go_wp2_with fail
            go_ret
            exact ⟨false, rfl, (fun e => by cases e), HB2.out⟩
        · have hji : ¬ (j2 : Int) < (heads.length : Int) := by omega
          have hsr : smallR ⟨place, time, bare, key, gone, value, heads⟩ := ⟨by show heads.length ≤ 12; omega, by show key.size ≤ 3000; omega, by show value.size ≤ 3000; omega, fun h hh => hI.all h (by rw [List.take_of_length_le (by omega)]; exact hh)⟩
          have HNN := Lib.hid (HN.out _ (HH.out.1.trans (hI.bel.mono HH.out.1.size)) hsr)
          have HB2 := Lib.hid (HF.out.trans (hI.bel.mono HF.out.size))
          clear hI hez hsr
          by_cases hn : n2 ≤ 3000
          · have hni : ¬ (3000 : Int) < (n2 : Int) := by omega
            go_wp2_with fail
            go_roundw
            case rel => exact ⟨k + 1, n2, by go_num, hk, rfl, hn, HNN.out⟩
            case measure => simp [intOf]; omega
          · have hni : (3000 : Int) < (n2 : Int) := by omega
            go_wp2_with fail
            go_ret
            exact ⟨false, rfl, (fun e => by cases e), HB2.out⟩
    · have hF : SmallL L := ⟨by omega, fun x hx => hS.all x (by rw [List.take_of_length_le (by omega)]; exact hx)⟩
      have HF := Lib.hid (And.intro hF hS.bel)
      clear hS hF
      go_wp2_with fail
      go_ret
      exact ⟨true, rfl, (fun _ => HF.out.1), HF.out.2⟩
end Go.Proofs.YtmhamfhhojmeoaaDoor

/- The law BatchEncodes walks to true for every batch. Condition: the table of sums. -/
namespace Go.Proofs.YtmhamfhhojmeoaaDoor
open Go.RowKit
set_option linter.unusedVariables false
theorem encsL_map (L : List RX) : encsL L = (L.map (·.1)).flatMap encL := by simp [encsL, List.flatMap_map]
theorem placedL_congr (span : Int) {L M : List RX} (last : Int) (h : M.map (·.1) = L.map (·.1)) : placedL span last M = placedL span last L := by rw [placedL_map, placedL_map, h]
theorem goodL_congr (span : Int) {L M : List RX} (last : Int) (h : M.map (·.1) = L.map (·.1)) : goodL span last M = goodL span last L := by
  rw [goodL_eq, goodL_eq, placedL_congr span last h]
  have e : ∀ K : List RX, (K.all fun x => okRec x.1) = (K.map (·.1)).all okRec := fun K => by simp [List.all_map, Function.comp_def]
  rw [e, e, h]
theorem bodyL_congr (b : BN) {L M : List RX} (h : M.map (·.1) = L.map (·.1)) : bodyL b M = bodyL b L := by
  have hl : M.length = L.length := by have := congrArg List.length h; simpa using this
  unfold bodyL
  rw [encsL_map, encsL_map, h, hl]
theorem batB_congr (b : BN) {L M : List RX} (h : M.map (·.1) = L.map (·.1)) : batB b M = batB b L := by
  have hl : M.length = L.length := by have := congrArg List.length h; simpa using this
  unfold batB
  rw [goodL_congr _ _ h, bodyL_congr b h, hl]
theorem batE_congr (b : BN) {L M : List RX} (h : M.map (·.1) = L.map (·.1)) : batE b M = batE b L := by unfold batE; rw [batB_congr b h]
theorem encV_congr (b : BN) {L M : List RX} (h : M.map (·.1) = L.map (·.1)) : encV b M = encV b L := by
  unfold encV encB bodyB
  rw [batB_congr b h, bodyL_congr b h, batE_congr b h]
theorem smallR_rin {w : World} {r : Rec} {A : Option Addr} {c : Nat} (h : smallR r) (hh : HIn w A r.heads) : RIn w r A c := by
  obtain ⟨h1, h2, h3, h4⟩ := h
  exact ⟨hh, by omega, by omega, by omega, fun x hx => by have := h4 x hx; omega⟩
theorem RowR.rsinS {w : World} {base c : Nat} {A : Option Addr} {L : List RX} (h : RowR w base (.slice A L.length c) L) (hok : ∀ x ∈ L, smallR x.1) : RsIn w A L := fun hp => by
  have hrow := h.row
  rcases hrow.2 with ⟨hv, h0⟩ | ⟨g, cap, cur, hv, hg, hh, h4, h5, h6, h7⟩
  · omega
  · injection hv with e1 _ _
    refine ⟨g, 0, e1, lt_of_there hh, fun j x hx => ?_⟩
    have hj : j < L.length := (List.getElem?_eq_some_iff.1 hx).1
    have k : ∀ i, i < 7 → w.cell? ⟨g, 0 + j * 7 + i, none⟩ = (recsC L)[j * 7 + i]? := fun i hi => by
      subst e1
      have := hrow.cellAt (j * 7 + i) (by omega)
      rw [show 0 + j * 7 + i = j * 7 + i by omega]
      exact this
    have k2 : ∀ i, i < 7 → (recsC L)[j * 7 + i]? = (recC x.1 x.2.1 x.2.2)[i]? := fun i hi => recsC_at hx hi
    have hokx := hok x (List.mem_of_getElem? hx)
    refine ⟨⟨?_, ?_, ?_, ?_, ?_, ?_, ?_⟩, smallR_rin hokx (hin_of_own (h.heads x (List.mem_of_getElem? hx)))⟩
    · exact (k 0 (by decide)).trans ((k2 0 (by decide)).trans rfl)
    · exact (k 1 (by decide)).trans ((k2 1 (by decide)).trans rfl)
    · exact (k 2 (by decide)).trans ((k2 2 (by decide)).trans rfl)
    · exact (k 3 (by decide)).trans ((k2 3 (by decide)).trans rfl)
    · exact (k 4 (by decide)).trans ((k2 4 (by decide)).trans rfl)
    · exact (k 5 (by decide)).trans ((k2 5 (by decide)).trans rfl)
    · exact (k 6 (by decide)).trans ((k2 6 (by decide)).trans rfl)
/-- The cells of a batch's box. -/
def C6 (w : World) (g : Nat) (base span prod epoch seq : Int) (A : Option Addr) (n c : Nat) : Prop :=
  w.cell? ⟨g, 0, none⟩ = some (.int .i64 base) ∧ w.cell? ⟨g, 1, none⟩ = some (.int .i64 span) ∧ w.cell? ⟨g, 2, none⟩ = some (.int .i64 prod) ∧ w.cell? ⟨g, 3, none⟩ = some (.int .i64 epoch) ∧ w.cell? ⟨g, 4, none⟩ = some (.int .i64 seq) ∧ w.cell? ⟨g, 5, none⟩ = some (.slice A n c)
theorem C6.of {w : World} {g : Nat} {base span prod epoch seq : Int} {A : Option Addr} {n c : Nat} (h : Box w g 24 #[.int .i64 base, .int .i64 span, .int .i64 prod, .int .i64 epoch, .int .i64 seq, .slice A n c]) : C6 w g base span prod epoch seq A n c := by
  obtain ⟨y0, y1, y2, y3, y4, y5, _⟩ := box_six h
  exact ⟨y0, y1, y2, y3, y4, y5⟩
/-- Two boxes of one batch. -/
structure Two5 (W : World) (base span prod epoch seq : Int) (L M : List RX) (b1 b2 : Nat) (A B : Option Addr) (c d : Nat) (w : World) : Prop where
  one : Box w b1 24 #[.int .i64 base, .int .i64 span, .int .i64 prod, .int .i64 epoch, .int .i64 seq, .slice A L.length c]
  two : Box w b2 24 #[.int .i64 base, .int .i64 span, .int .i64 prod, .int .i64 epoch, .int .i64 seq, .slice B M.length d]
  r1 : RsIn w A L
  r2 : RsIn w B M
  bel : Below W.heap.size W w
  tab : Tab w
def TwoS5 (W : World) (base span prod epoch seq : Int) (L M : List RX) (b1 b2 : Nat) (A B : Option Addr) (c d : Nat) (w : World) : Prop :=
  C6 w b1 base span prod epoch seq A L.length c ∧ C6 w b2 base span prod epoch seq B M.length d ∧ Two5 W base span prod epoch seq L M b1 b2 A B c d w
section
variable {W w w' : World} {base span prod epoch seq : Int} {L M : List RX} {b1 b2 : Nat} {A B : Option Addr} {c d : Nat}
theorem Two5.later (h : Two5 W base span prod epoch seq L M b1 b2 A B c d w) (hb : Below w.heap.size w w') : Two5 W base span prod epoch seq L M b1 b2 A B c d w' :=
  ⟨h.one.later hb, h.two.later hb, h.r1.below hb, h.r2.below hb, h.bel.trans (hb.mono h.bel.size), h.tab.below hb⟩
theorem TwoS5.of (h : Two5 W base span prod epoch seq L M b1 b2 A B c d w) : TwoS5 W base span prod epoch seq L M b1 b2 A B c d w := ⟨C6.of h.one, C6.of h.two, h⟩
theorem TwoS5.r1 (h : TwoS5 W base span prod epoch seq L M b1 b2 A B c d w) : RsIn w A L := h.2.2.r1
theorem TwoS5.r2 (h : TwoS5 W base span prod epoch seq L M b1 b2 A B c d w) : RsIn w B M := h.2.2.r2
theorem TwoS5.tab (h : TwoS5 W base span prod epoch seq L M b1 b2 A B c d w) : Tab w := h.2.2.tab
theorem TwoS5.bel (h : TwoS5 W base span prod epoch seq L M b1 b2 A B c d w) : Below W.heap.size W w := h.2.2.bel
theorem TwoS5.step (h : TwoS5 W base span prod epoch seq L M b1 b2 A B c d w) (hb : Below w.heap.size w w') : TwoS5 W base span prod epoch seq L M b1 b2 A B c d w' := .of (h.2.2.later hb)
end
set_option maxHeartbeats 8000000 in
set_option maxRecDepth 100000 in
theorem batchEncodes_walk (b : BN) (L : List RX) (A : Option Addr) (c : Nat) (W : World) (hR : RsIn W A L) (hlen : L.length ≤ 140737488351232) (hT : Tab W) :
    Calls Tryd.prog 3 #[.agg (bnC b (.slice A L.length c))] W (Yes W) := by
  obtain ⟨base, span, prod, epoch, seq⟩ := b
  have hb0 : Below W.heap.size W (W.alloc (.cells #[.int .i64 base, .int .i64 span, .int .i64 prod, .int .i64 epoch, .int .i64 seq, .slice A L.length c] 24)) := (Below.refl _ _).alloc (Nat.le_refl _) _
  have hbx := Box.new W 24 #[.int .i64 base, .int .i64 span, .int .i64 prod, .int .i64 epoch, .int .i64 seq, .slice A L.length c]
  have hsm := fun w hx => rsmall_c ⟨base, span, prod, epoch, seq⟩ L A c w hx hlen
  have H0 := Lib.hid (And.intro hb0 (And.intro hbx (And.intro (hR.below hb0) (hT.below hb0))))
  obtain ⟨y0, y1, y2, y3, y4, y5, _, _, _, _, _, _⟩ := box_six hbx
  clear hb0 hbx hR hT
  unfold GotSm bnC at hsm
  unfold bnC
  simp only at hsm
  simp only
  go_enter Tryd.func3, Tryd.ntmps3
  go_wp2_with fail
  (with_reducible refine (hsm _ H0.out.2.2.1).mono ?_)
  rintro en w1 ⟨res, rfl, hres, hb1⟩
  have H1 := Lib.hid (And.intro (H0.out.1.trans (hb1.mono H0.out.1.size)) (And.intro (H0.out.2.1.later hb1) (And.intro (H0.out.2.2.1.below hb1) (H0.out.2.2.2.below hb1))))
  clear hb1 hsm H0 y0 y1 y2 y3 y4 y5
  cases res with
  | false =>
    go_wp2_with fail
    (with_reducible refine (live5_c _ H1.out.2.2.2).mono ?_)
    rintro en w2 ⟨rfl, hb2⟩
    have H2 := Lib.hid (H1.out.1.trans (hb2.mono H1.out.1.size))
    clear hb2
    go_wp2_with fail
    go_ret
    exact ⟨rfl, H2.out⟩
  | true =>
    have HSM := Lib.hid (hres rfl)
    clear hres
    obtain ⟨y0, y1, y2, y3, y4, y5, _, _, _, _, _, _⟩ := box_six H1.out.2.1
    have hcp := rcopy5_c ⟨base, span, prod, epoch, seq⟩ L A c w1 H1.out.2.2.1 (by have := HSM.out.1; omega) (fun x hx => by have := (HSM.out.2 x hx).1; omega)
    unfold CopiedB bnC at hcp
    simp only at hcp
    go_wp2_with fail
    (with_reducible refine hcp.mono ?_)
    rintro en w2 ⟨M, B, d, hM, rfl, hrow, hb2⟩
    clear hcp y0 y1 y2 y3 y4 y5
    have hal := (Below.refl w2.heap.size w2).alloc (Nat.le_refl _) (.cells #[.int .i64 base, .int .i64 span, .int .i64 prod, .int .i64 epoch, .int .i64 seq, .slice B M.length d] 24)
    have hMs : ∀ x ∈ M, smallR x.1 := fun x hx => by
      have h1 : x.1 ∈ L.map (·.1) := by rw [← hM]; exact List.mem_map_of_mem hx
      obtain ⟨y, hy, e⟩ := List.mem_map.1 h1
      rw [← e]
      exact HSM.out.2 y hy
    have hb2' := hb2.trans (hal.mono hb2.size)
    have HML := Lib.hid (show M.length ≤ 140737488351232 by have e : M.length = L.length := by { have := congrArg List.length hM; simpa using this }; omega)
    have T2 := Lib.hid ((⟨H1.out.2.1.later hb2', Box.new w2 24 #[.int .i64 base, .int .i64 span, .int .i64 prod, .int .i64 epoch, .int .i64 seq, .slice B M.length d], H1.out.2.2.1.below hb2', (hrow.rsinS hMs).below hal, H1.out.1.trans (hb2'.mono H1.out.1.size), H1.out.2.2.2.below hb2'⟩ : Two5 W base span prod epoch seq L M W.heap.size w2.heap.size A B c d _))
    have hen := fun w hx ht => pencode_c ⟨base, span, prod, epoch, seq⟩ B d M w hx HML.out ht
    have hre := fun w hx => rencode5_c ⟨base, span, prod, epoch, seq⟩ A c L w hx hlen
    have hck := fun w hx => pcheck5_c ⟨base, span, prod, epoch, seq⟩ B d M w hx HML.out
    have hrk := fun w hx => rcheck5_c ⟨base, span, prod, epoch, seq⟩ A c L w hx hlen
    have hsa := fun w hx hy => rsame5_c ⟨base, span, prod, epoch, seq⟩ M L B A d c w hx hy hM (by have e : M.length = L.length := by { have := congrArg List.length hM; simpa using this }; have := HSM.out.1; omega) (fun x hx => by have := (hMs x hx).1; omega)
    rw [encV_congr _ hM] at hen
    rw [batE_congr _ hM] at hck
    unfold encV bnC at hen hre
    unfold bnC at hck hrk hsa
    simp only at hen hre hck hrk hsa
    generalize encB ⟨base, span, prod, epoch, seq⟩ L = S at *
    generalize batE ⟨base, span, prod, epoch, seq⟩ L = er at *
    clear hb2 hb2' hal hrow hM hMs H1
    have hS := TwoS5.of T2.out
    obtain ⟨z0, z1, z2, z3, z4, z5⟩ := hS.2.1
    go_wp2_with fail
    (with_reducible refine (hen _ T2.out.r2 T2.out.tab).mono ?_)
    rintro en w3 ⟨rfl, hb3⟩
    have T3 := Lib.hid (T2.out.later hb3)
    clear hb3 T2 z0 z1 z2 z3 z4 z5 hS hen
    obtain ⟨y0, y1, y2, y3, y4, y5⟩ := (TwoS5.of T3.out).1
    go_wp2_with fail
    (with_reducible refine (hre _ T3.out.r1).mono ?_)
    rintro en w4 ⟨rfl, hb4⟩
    have T4 := Lib.hid (T3.out.later hb4)
    clear hb4 T3 y0 y1 y2 y3 y4 y5 hre
    have hS := TwoS5.of T4.out
    go_wp2_with fail
    go_region_held3 (fun w => (w.cell? ⟨W.heap.size, 0, none⟩ = some (.int .i64 base) ∧ w.cell? ⟨W.heap.size, 1, none⟩ = some (.int .i64 span) ∧ w.cell? ⟨W.heap.size, 2, none⟩ = some (.int .i64 prod) ∧ w.cell? ⟨W.heap.size, 3, none⟩ = some (.int .i64 epoch) ∧ w.cell? ⟨W.heap.size, 4, none⟩ = some (.int .i64 seq) ∧ w.cell? ⟨W.heap.size, 5, none⟩ = some (.slice A L.length c)) ∧ (w.cell? ⟨w2.heap.size, 0, none⟩ = some (.int .i64 base) ∧ w.cell? ⟨w2.heap.size, 1, none⟩ = some (.int .i64 span) ∧ w.cell? ⟨w2.heap.size, 2, none⟩ = some (.int .i64 prod) ∧ w.cell? ⟨w2.heap.size, 3, none⟩ = some (.int .i64 epoch) ∧ w.cell? ⟨w2.heap.size, 4, none⟩ = some (.int .i64 seq) ∧ w.cell? ⟨w2.heap.size, 5, none⟩ = some (.slice B M.length d)) ∧ Two5 W base span prod epoch seq L M W.heap.size w2.heap.size A B c d w)
      (first | exact TwoS5.step (W := W) (base := base) (span := span) (prod := prod) (epoch := epoch) (seq := seq) (L := L) (M := M) (b1 := W.heap.size) (b2 := w2.heap.size) (A := A) (B := B) (c := c) (d := d) hS ((Below.refl _ _).drew) | exact TwoS5.step (W := W) (base := base) (span := span) (prod := prod) (epoch := epoch) (seq := seq) (L := L) (M := M) (b1 := W.heap.size) (b2 := w2.heap.size) (A := A) (B := B) (c := c) (d := d) (by assumption) (by assumption))
      (first
        | ((with_reducible refine (hck _ ?_).mono ?_); (exact TwoS5.r2 (W := W) (base := base) (span := span) (prod := prod) (epoch := epoch) (seq := seq) (L := L) (M := M) (b1 := W.heap.size) (b2 := w2.heap.size) (A := A) (B := B) (c := c) (d := d) (by assumption)); rintro e w5 ⟨rfl, hb5⟩)
        | ((with_reducible refine (hrk _ ?_).mono ?_); (exact TwoS5.r1 (W := W) (base := base) (span := span) (prod := prod) (epoch := epoch) (seq := seq) (L := L) (M := M) (b1 := W.heap.size) (b2 := w2.heap.size) (A := A) (B := B) (c := c) (d := d) (by assumption)); rintro e w5 ⟨rfl, hb5⟩)
        | ((with_reducible refine (hsa _ ?_ ?_).mono ?_); (exact TwoS5.r2 (W := W) (base := base) (span := span) (prod := prod) (epoch := epoch) (seq := seq) (L := L) (M := M) (b1 := W.heap.size) (b2 := w2.heap.size) (A := A) (B := B) (c := c) (d := d) (by assumption)); (exact TwoS5.r1 (W := W) (base := base) (span := span) (prod := prod) (epoch := epoch) (seq := seq) (L := L) (M := M) (b1 := W.heap.size) (b2 := w2.heap.size) (A := A) (B := B) (c := c) (d := d) (by assumption)); rintro e w5 ⟨rfl, hb5⟩)
        | ((with_reducible refine (live5_c _ ?_).mono ?_); (exact TwoS5.tab (W := W) (base := base) (span := span) (prod := prod) (epoch := epoch) (seq := seq) (L := L) (M := M) (b1 := W.heap.size) (b2 := w2.heap.size) (A := A) (B := B) (c := c) (d := d) (by assumption)); rintro e w5 ⟨rfl, hb5⟩))
    all_goals
      go_wp2
      go_ret
      exact ⟨rfl, TwoS5.bel (W := W) (base := base) (span := span) (prod := prod) (epoch := epoch) (seq := seq) (L := L) (M := M) (b1 := W.heap.size) (b2 := w2.heap.size) (A := A) (B := B) (c := c) (d := d) (by assumption)⟩
end Go.Proofs.YtmhamfhhojmeoaaDoor
/- The document's Scan of batches; the laws BatchDecodes and BatchScans walk to true. Condition: the table of sums. -/
namespace Go.Proofs.YtmhamfhhojmeoaaDoor
open Go.RowKit
set_option linter.unusedVariables false
set_option maxHeartbeats 16000000 in
set_option maxRecDepth 100000 in
theorem rscan5_c (s : ByteArray) (W : World) (hs : s.size ≤ 1000000) :
    Calls Tryd.prog 20 #[.string s] W (GotSc W (scanG s (s.size + 1) 0).1 (scanG s (s.size + 1) 0).2) := by
  obtain ⟨R, hR⟩ : ∃ R, (scanG s (s.size + 1) 0).1 = R := ⟨_, rfl⟩
  obtain ⟨q, hq⟩ : ∃ q, (scanG s (s.size + 1) 0).2 = q := ⟨_, rfl⟩
  have H0 : Hid (ScanS s W R q none 0 [] 0 W) := Lib.hid ⟨BtsR.nil _ _, Below.refl _ _, by simp, by omega, s.size + 1, by omega, by simpa using hR, hq⟩
  rw [hR, hq]
  clear hR hq
  obtain ⟨i0, hi, hz0, hz1, hz2⟩ := info_parts batInfo
  go_enter Tryd.func20, Tryd.ntmps20
  go_wp2_with fail
  go_loopw [4, 5] (fun l i wr => ∃ (L : List BX) (A : Option Addr) (c : Nat) (e : Int), l = .slice A L.length c ∧ i = .int .i64 e ∧ ScanS s W R q A c L e wr) (fun _ i _ => s.size - (intOf i).toNat)
  case atStart => exact ⟨[], none, 0, 0, rfl, rfl, H0.out⟩
  case round =>
    obtain ⟨L, A, c, e, rfl, rfl, hS⟩ := hrel
    have cd := fun w => rdecode5_c s e w hs
    have HG := Lib.hid (fun he (x : BX) A' c' w2 => hS.go (w' := w2) (A' := A') (c' := c') (x := x) he)
    have HE := Lib.hid hS.stop
    have hup := fun h => decG_up (s := s) (p := e) h
    have HS := Lib.hid hS
    have hlo := hS.lo
    have hhi := hS.hi
    clear H0 hS
    generalize (decG s e).1 = b at *
    generalize (decG s e).2.1 = K at *
    generalize (decG s e).2.2.1 = e1 at *
    generalize (decG s e).2.2.2 = e2 at *
    obtain ⟨base, span, prod, epoch, seq⟩ := b
    unfold GotBt bnC at cd
    simp only at cd
    by_cases he : e2 = 0
    · subst he
      have hup := hup rfl
      have HG := Lib.hid (HG.out rfl)
      clear HE
      go_wp2_with fail
      (with_reducible refine (cd _).mono ?_)
      rintro en w1 ⟨X, B, d, hX, rfl, hrow, hb1⟩
      have hsz1 := HS.out.bel.size
      have hal1 : Below w1.heap.size w1 (w1.alloc (.cells #[.int .i64 base, .int .i64 span, .int .i64 prod, .int .i64 epoch, .int .i64 seq, .slice B X.length d] 24)) := (Below.refl _ _).alloc (Nat.le_refl _) _
      have hal2 : Below w1.heap.size w1 ((w1.alloc (.cells #[.int .i64 base, .int .i64 span, .int .i64 prod, .int .i64 epoch, .int .i64 seq, .slice B X.length d] 24)).alloc (.cells #[.int .i64 base, .int .i64 span, .int .i64 prod, .int .i64 epoch, .int .i64 seq, .slice B X.length d] 24)) := hal1.alloc hal1.size _
      have HV2 := Lib.hid (And.intro ((HS.out.row.later hb1).later hal2) (And.intro ((hrow.base hsz1).later hal2) ((HS.out.bel.trans (hb1.mono hsz1)).trans (hal2.mono (Nat.le_trans hsz1 hb1.size)))))
      have hrow2 := HV2.out.1.row
      have hbn := (by
        have := Box.new (w1.alloc (.cells #[.int .i64 base, .int .i64 span, .int .i64 prod, .int .i64 epoch, .int .i64 seq, .slice B X.length d] 24)) 24 (bnC ⟨base, span, prod, epoch, seq⟩ (.slice B X.length d))
        rw [World.size_alloc] at this
        exact this : Box ((w1.alloc (.cells #[.int .i64 base, .int .i64 span, .int .i64 prod, .int .i64 epoch, .int .i64 seq, .slice B X.length d] 24)).alloc (.cells (bnC ⟨base, span, prod, epoch, seq⟩ (.slice B X.length d)) 24)) (w1.heap.size + 1) 24 (bnC ⟨base, span, prod, epoch, seq⟩ (.slice B X.length d)))
      have hnews := news_at hbn
      have hone := bat_one ⟨base, span, prod, epoch, seq⟩ B X.length d
      have hsz2 := HV2.out.2.2.size
      unfold bnC at hnews hone
      simp only at hnews hone
      have HNW := Lib.hid (And.intro hnews hone)
      have HX := Lib.hid hX
      clear hal1 hal2 hbn hnews hone hrow hb1 hX cd
      go_wp2_with (at_builtin; refine wpList_append_own_at _ rfl _ _ 36 rfl W.heap.size 24 i0 _ 6 64 Tryd.underlying36 hi hz0 hz1 hz2 batC_zero (by decide) (.slice A L.length c) L.length (batsC L) rfl hrow2 ⟨w1.heap.size + 1, 0, none⟩ 1 1 [.int .i64 base, .int .i64 span, .int .i64 prod, .int .i64 epoch, .int .i64 seq, .slice B X.length d] rfl rfl HNW.out.1 HNW.out.2 (by unfold maxLen; omega) (by omega) hsz2 ?_)
      intro v' w2 hown' hgrow _ _
      obtain ⟨g', cap', rfl⟩ : ∃ g' cap', v' = .slice (some ⟨g', 0, none⟩) (L.length + 1) cap' := by
        rcases hown'.2 with ⟨_, h0⟩ | ⟨g, cap, cur, hv, _⟩
        · omega
        · exact ⟨g, cap, hv⟩
      have HB2 := Lib.hid (HV2.out.2.2.grown hgrow hsz2 (fun j e => (hrow2.lt j e).1))
      have HR2 := Lib.hid (HV2.out.1.grow (x := (⟨base, span, prod, epoch, seq⟩, X, B, d)) HV2.out.2.1 hown' hgrow)
      clear hown' hgrow hrow2
      go_wp2
      go_roundw
      case rel =>
        refine ⟨L ++ [(⟨base, span, prod, epoch, seq⟩, X, B, d)], some ⟨g', 0, none⟩, cap', e1, ?_, rfl, HG.out trivial _ _ _ _ (by unfold BX.told; rw [HX.out]) HR2.out HB2.out⟩
        rw [show (L ++ [((⟨base, span, prod, epoch, seq⟩, X, B, d) : BX)]).length = L.length + 1 by simp]
      case measure => simp [intOf]; omega
    · have he' : (e2 == 0) = false := by rw [beq_eq_false_iff_ne]; exact he
      have he3 : (e2 != 0) = true := by simpa using he
      have hst := HE.out he
      obtain ⟨hLR, rfl⟩ := hst
      have HLR := Lib.hid hLR
      clear hLR HE HG hup he
      go_wp2_with fail
      (with_reducible refine (cd _).mono ?_)
      rintro en w1 ⟨X, B, d, hX, rfl, hrow, hb1⟩
      have hsz1 := HS.out.bel.size
      have hal1 : Below w1.heap.size w1 (w1.alloc (.cells #[.int .i64 base, .int .i64 span, .int .i64 prod, .int .i64 epoch, .int .i64 seq, .slice B X.length d] 24)) := (Below.refl _ _).alloc (Nat.le_refl _) _
      have HV2 := Lib.hid (And.intro ((HS.out.row.later hb1).later hal1) ((HS.out.bel.trans (hb1.mono hsz1)).trans (hal1.mono (Nat.le_trans hsz1 hb1.size))))
      clear hal1 hb1 hrow hX cd
      go_wp2
      go_ret2
      exact ⟨L, A, c, HLR.out, rfl, HV2.out.1, HV2.out.2⟩
theorem decG_recs {s : ByteArray} {p : Int} : (decG s p).2.1.length ≤ 50 ∧ ∀ r ∈ (decG s p).2.1, okRec r = true := by
  unfold decG
  split
  · exact ⟨by simp, fun r hr => by cases hr⟩
  · split
    · rename_i h
      refine ⟨?_, fun r hr => rrd_ok _ r hr⟩
      unfold unpB at h
      simp only [Bool.and_eq_true, decide_eq_true_eq] at h
      obtain ⟨_, hc, hr, _⟩ := h
      have := rrd_len _ hr
      show (rrd _ _ _).1.length ≤ 50
      rw [this]
      omega
    · exact ⟨by simp, fun r hr => by cases hr⟩
theorem scanG_recs {s : ByteArray} : ∀ (n : Nat) (p : Int), ∀ x ∈ (scanG s n p).1, x.2.length ≤ 50 ∧ ∀ r ∈ x.2, okRec r = true
  | 0, p, x, hx => by cases hx
  | n + 1, p, x, hx => by
    unfold scanG at hx
    split at hx
    · cases hx
    · simp only [List.mem_cons] at hx
      rcases hx with rfl | hx
      · exact decG_recs
      · exact scanG_recs n _ x hx
theorem ok_heads {r : Rec} (h : okRec r = true) : r.heads.length ≤ 1000 := by
  obtain ⟨_, _, m1, _⟩ := okRec_parts h
  omega
theorem scanG_len {s : ByteArray} : ∀ (n : Nat) (p : Int), (scanG s n p).1.length ≤ n
  | 0, p => by simp [scanG]
  | n + 1, p => by
    unfold scanG
    split
    · simp
    · have := scanG_len (s := s) n (decG s p).2.2.1
      simp only [List.length_cons]
      omega
theorem told_mem {L : List BX} {R : List (BN × List Rec)} (hL : L.map BX.told = R) {x : BX} (hx : x ∈ L) : (x.1, x.2.1.map (·.1)) ∈ R := by
  rw [← hL]
  exact List.mem_map_of_mem (f := BX.told) hx
theorem BtsR.bsinOk {w : World} {base c : Nat} {A : Option Addr} {L : List BX} {R : List (BN × List Rec)} (h : BtsR w base (.slice A L.length c) L) (hL : L.map BX.told = R) (hok : ∀ x ∈ R, ∀ r ∈ x.2, okRec r = true) : BsIn w A L :=
  h.bsin (fun x hx y hy => hok _ (told_mem hL hx) y.1 (List.mem_map_of_mem hy))
theorem told_small {L : List BX} {R : List (BN × List Rec)} (hL : L.map BX.told = R) (hok : ∀ x ∈ R, x.2.length ≤ 50 ∧ ∀ r ∈ x.2, okRec r = true) {x : BX} (hx : x ∈ L) : x.2.1.length ≤ 1000 ∧ ∀ y ∈ x.2.1, y.1.heads.length ≤ 1000 := by
  obtain ⟨h1, h2⟩ := hok _ (told_mem hL hx)
  rw [List.length_map] at h1
  exact ⟨by omega, fun y hy => ok_heads (h2 y.1 (List.mem_map_of_mem hy))⟩
theorem RowR.rsinOk {w : World} {base c : Nat} {A : Option Addr} {L : List RX} {R : List Rec} (h : RowR w base (.slice A L.length c) L) (hL : L.map (·.1) = R) (hok : ∀ r ∈ R, okRec r = true) : RsIn w A L :=
  h.rsin (fun x hx => hok x.1 (by rw [← hL]; exact List.mem_map_of_mem hx))
set_option maxHeartbeats 8000000 in
set_option maxRecDepth 100000 in
theorem batchDecodes_walk (a0 : ByteArray) (a1 : Int) (W : World) (s0 : a0.size ≤ 140737488351232) (w1 : (Lit.int .i64 a1).wf = true) (hT : Tab W) :
    Calls Tryd.prog 4 #[.string a0, .int .i64 a1] W (Yes W) := by
  by_cases h : 5000 < a0.size
  · have hi : (5000 : Int) < (a0.size : Int) := by omega
    go_enter Tryd.func4, Tryd.ntmps4
    go_wp2_with ((with_reducible refine (live5_c _ hT).mono ?_); rintro e w2 ⟨rfl, hb2⟩)
    go_ret
    exact ⟨rfl, hb2⟩
  · have hi : ¬ (5000 : Int) < (a0.size : Int) := by omega
    have c1 := pdecode5_c a0 a1 W s0 hT
    have c2 := fun w => rdecode5_c a0 a1 w (by omega)
    have HO := Lib.hid (decG_recs (s := a0) (p := a1))
    generalize (decG a0 a1).1 = b at *
    generalize (decG a0 a1).2.1 = R at *
    generalize (decG a0 a1).2.2.1 = q at *
    generalize (decG a0 a1).2.2.2 = er at *
    obtain ⟨base, span, prod, epoch, seq⟩ := b
    have cs := fun w (L M : List RX) A B c d h1 h2 h3 h4 h5 => rsame5_c ⟨base, span, prod, epoch, seq⟩ L M A B c d w h1 h2 h3 h4 h5
    unfold GotBt bnC at c1 c2
    unfold bnC at cs
    simp only at c1 c2 cs
    go_enter Tryd.func4, Tryd.ntmps4
    go_wp2_with fail
    (with_reducible refine c1.mono ?_)
    rintro e w1 ⟨L, A, c, hL, rfl, hrow, hb1⟩
    have hal1 : Below w1.heap.size w1 (w1.alloc (.cells #[.int .i64 base, .int .i64 span, .int .i64 prod, .int .i64 epoch, .int .i64 seq, .slice A L.length c] 24)) := (Below.refl _ _).alloc (Nat.le_refl _) _
    have H1 := Lib.hid (And.intro (hb1.trans (hal1.mono hb1.size)) (And.intro (Box.new w1 24 #[.int .i64 base, .int .i64 span, .int .i64 prod, .int .i64 epoch, .int .i64 seq, .slice A L.length c]) ((hrow.rsinOk hL HO.out.2).below hal1)))
    have HL := Lib.hid hL
    clear hb1 hal1 hrow hL c1
    go_wp2_with fail
    (with_reducible refine (c2 _).mono ?_)
    rintro e w2 ⟨M, B, d, hM, rfl, hrow, hb2⟩
    have hal2 : Below w2.heap.size w2 (w2.alloc (.cells #[.int .i64 base, .int .i64 span, .int .i64 prod, .int .i64 epoch, .int .i64 seq, .slice B M.length d] 24)) := (Below.refl _ _).alloc (Nat.le_refl _) _
    have hb3 := hb2.trans (hal2.mono hb2.size)
    have H2 := Lib.hid (And.intro (H1.out.1.trans (hb3.mono H1.out.1.size)) (And.intro (H1.out.2.1.later hb3) (And.intro (H1.out.2.2.below hb3) (And.intro (Box.new w2 24 #[.int .i64 base, .int .i64 span, .int .i64 prod, .int .i64 epoch, .int .i64 seq, .slice B M.length d]) ((hrow.rsinOk hM HO.out.2).below hal2)))))
    have HM := Lib.hid hM
    clear hb2 hb3 hal2 hrow hM c2 H1
    have hlen : M.length = L.length := by
      have e1 := congrArg List.length HL.out
      have e2 := congrArg List.length HM.out
      rw [List.length_map] at e1 e2
      omega
    have h50 : L.length ≤ 1000 := by
      have e1 := congrArg List.length HL.out
      rw [List.length_map] at e1
      have := HO.out.1
      omega
    have hcs := Lib.hid (cs _ L M A B c d H2.out.2.2.1 H2.out.2.2.2.2 (HL.out.trans HM.out.symm) h50 (fun x hx => ok_heads (HO.out.2 x.1 (by rw [← HL.out]; exact List.mem_map_of_mem hx))))
    obtain ⟨y0, y1, y2, y3, y4, y5, _, _, _, _, _, _⟩ := box_six H2.out.2.1
    obtain ⟨z0, z1, z2, z3, z4, z5, _, _, _, _, _, _⟩ := box_six H2.out.2.2.2.1
    clear cs h50
    clear hlen
    go_wp2_with fail
    (with_reducible refine hcs.out.mono ?_)
    rintro e w3 ⟨rfl, hb3⟩
    have H3 := Lib.hid (H2.out.1.trans (hb3.mono H2.out.1.size))
    clear hb3 H2 y0 y1 y2 y3 y4 y5 z0 z1 z2 z3 z4 z5 hcs
    go_wp2_with fail
    (with_reducible refine (live5_c _ (hT.below H3.out)).mono ?_)
    rintro e w4 ⟨rfl, hb4⟩
    have H4 := Lib.hid (H3.out.trans (hb4.mono H3.out.size))
    clear hb4 H3
    go_wp2_with fail
    go_ret
    exact ⟨rfl, H4.out⟩
set_option maxHeartbeats 8000000 in
set_option maxRecDepth 100000 in
theorem batchScans_walk (a0 : ByteArray) (W : World) (s0 : a0.size ≤ 140737488351232) (hT : Tab W) :
    Calls Tryd.prog 5 #[.string a0] W (Yes W) := by
  by_cases h : 5000 < a0.size
  · have hi : (5000 : Int) < (a0.size : Int) := by omega
    go_enter Tryd.func5, Tryd.ntmps5
    go_wp2_with ((with_reducible refine (live5_c _ hT).mono ?_); rintro e w2 ⟨rfl, hb2⟩)
    go_ret
    exact ⟨rfl, hb2⟩
  · have hi : ¬ (5000 : Int) < (a0.size : Int) := by omega
    have c1 := pscan_c a0 W (by omega) hT
    have c2 := fun w => rscan5_c a0 w (by omega)
    have HO := Lib.hid (scanG_recs (s := a0) (a0.size + 1) 0)
    have HN := Lib.hid (scanG_len (s := a0) (a0.size + 1) 0)
    generalize (scanG a0 (a0.size + 1) 0).1 = R at *
    generalize (scanG a0 (a0.size + 1) 0).2 = q at *
    unfold GotSc at c1 c2
    go_enter Tryd.func5, Tryd.ntmps5
    go_wp2_with fail
    (with_reducible refine c1.mono ?_)
    rintro e w1 ⟨L, A, c, hL, rfl, hrow, hb1⟩
    have H1 := Lib.hid (And.intro hb1 (hrow.bsinOk hL (fun x hx => (HO.out x hx).2)))
    have HL := Lib.hid hL
    clear hb1 hrow hL c1
    go_wp2_with fail
    (with_reducible refine (c2 _).mono ?_)
    rintro e w2 ⟨M, B, d, hM, rfl, hrow, hb2⟩
    have H2 := Lib.hid (And.intro (H1.out.1.trans (hb2.mono H1.out.1.size)) (And.intro (H1.out.2.below hb2) (hrow.bsinOk hM (fun x hx => (HO.out x hx).2))))
    have HM := Lib.hid hM
    clear hb2 hrow hM c2 H1
    have hln : L.length ≤ 140737488351232 := by
      have e1 := congrArg List.length HL.out
      rw [List.length_map] at e1
      have := HN.out
      omega
    have hcs := Lib.hid (rsameAll5_c L M A B c d w2 H2.out.2.1 H2.out.2.2 (HL.out.trans HM.out.symm) hln (fun x hx => told_small HL.out HO.out hx))
    clear hln
    go_wp2_with fail
    (with_reducible refine hcs.out.mono ?_)
    rintro e w3 ⟨rfl, hb3⟩
    have H3 := Lib.hid (H2.out.1.trans (hb3.mono H2.out.1.size))
    clear hb3 H2 hcs
    go_wp2_with fail
    (with_reducible refine (live5_c _ (hT.below H3.out)).mono ?_)
    rintro e w4 ⟨rfl, hb4⟩
    have H4 := Lib.hid (H3.out.trans (hb4.mono H3.out.size))
    clear hb4 H3
    go_wp2_with fail
    go_ret
    exact ⟨rfl, H4.out⟩
end Go.Proofs.YtmhamfhhojmeoaaDoor
