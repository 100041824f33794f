/- Merged texts. What each proves is told at its head. -/
import Derived.Test.YtjnphajkoopkgaaGreatDoorQA
import Derived.Test.YtjnphajkoopkgaaGreatDoorQO
import Derived.Test.YtjnphajkoopkgaaGreatDoorQU
/- segment: what an argument of batches reads as. No condition. -/
namespace Go.Proofs.YtjnphajkoopkgaaGreatDoor
open Go.RowKit Go.WideShapes Go.ChangeShapes Go.Deep
set_option linter.unusedVariables false
section
variable {H : Type} {enc : TypeId × Value → H} {w : World} {base : Nat} {sp : Nat → Bool} {held : Bool}
set_option maxRecDepth 100000 in
theorem open_bats {r : Reach} {b0 : Nat} {v : Value} {d : DataW H} {p : List MemPlace} (hv : Value.okWide Tryz.prog w r b0 51 v) (h : DataW.Trod enc Tryz.prog w base sp held 51 v d p) (hw : Weighs Tryz.prog 51 d) :
    ∃ (A : Option Addr) (c : Nat) (L : List BX), v = .slice A L.length c ∧ BsIn w A L ∧ ∀ x ∈ L, x.2.1.length ≤ 140737488351232 := by
  obtain ⟨fuel, hf⟩ := h
  obtain ⟨A0, len0, cap0, rfl⟩ := okWide_slice Tryz.underlying51 hv
  have hf' : DataW.trod enc Tryz.prog w base sp held fuel 51 [.slice A0 len0 cap0] = some (d, p) := hf
  rcases open_slice Tryz.underlying51 hf' with ⟨hcs, _⟩ | ⟨a, len, cap, m, n', D, Pl, hcs, _, hlc, _, hm, hx, hi⟩
  · refine ⟨A0, cap0, [], ?_, fun hp => by simp at hp, fun x hx => by cases hx⟩
    simp at hcs
    rw [hcs.2.1]
    rfl
  · have hlm : len ≤ m := by rw [hm]; split <;> omega
    have hxv : (Value.slice A0 len0 cap0) = .slice (some a) len cap := by simpa using hcs
    have hD : d = .slice ((List.range len).map D) ((List.range (m - len)).map fun j => D (len + j)) := by
      have := congrArg Prod.fst hx
      exact this
    rw [hD] at hw
    have key : ∀ i, i < len → ∃ o : BX, (∀ j u, (bnC o.1 (.slice o.2.2.1 o.2.1.length o.2.2.2))[j]? = some u → w.cell? ((a.add (i * 6)).add j) = some u) ∧ RsIn w o.2.2.1 o.2.1 ∧ o.2.1.length ≤ 140737488351232 := by
      intro i hil
      obtain ⟨cs', hc, ht'⟩ := hi i (by omega)
      rw [show Tryz.prog.cellsOf 44 = 6 by kernel_rfl] at hc
      obtain ⟨_, hcl2, hat⟩ := World.cells?_some hc
      have hwe : Weighs Tryz.prog 44 (D i) := weighs_elem Tryz.underlying51 hw (i := i) (by simp [hil])
      obtain ⟨n2, get⟩ := open_cells Tryz.underlying44 (by kernel_rfl) hcl2 ht' hwe
      obtain ⟨x0, y0, q0, t0, w0⟩ := get 0 _ rfl
      obtain ⟨x1, y1, q1, t1, w1⟩ := get 1 _ rfl
      obtain ⟨x2, y2, q2, t2, w2⟩ := get 2 _ rfl
      obtain ⟨x3, y3, q3, t3, w3⟩ := get 3 _ rfl
      obtain ⟨x4, y4, q4, t4, w4⟩ := get 4 _ rfl
      obtain ⟨x5, y5, q5, t5, w5⟩ := get 5 _ rfl
      obtain ⟨n0, e0, _, _⟩ := DataW.trod_int Tryz.underlying3 t0
      obtain ⟨n1, e1, _, _⟩ := DataW.trod_int Tryz.underlying3 t1
      obtain ⟨n2, e2, _, _⟩ := DataW.trod_int Tryz.underlying3 t2
      obtain ⟨n3, e3, _, _⟩ := DataW.trod_int Tryz.underlying3 t3
      obtain ⟨n4, e4, _, _⟩ := DataW.trod_int Tryz.underlying3 t4
      obtain ⟨A, c, L, e5, hin, hl⟩ := open_recs t5 w5
      obtain rfl : x0 = .int .i64 n0 := by simpa using e0
      obtain rfl : x1 = .int .i64 n1 := by simpa using e1
      obtain rfl : x2 = .int .i64 n2 := by simpa using e2
      obtain rfl : x3 = .int .i64 n3 := by simpa using e3
      obtain rfl : x4 = .int .i64 n4 := by simpa using e4
      subst e5
      refine ⟨(⟨n0, n1, n2, n3, n4⟩, L, A, c), fun j u hj => ?_, hin, hl⟩
      have hj6 : j < 6 := (Array.getElem?_eq_some_iff.1 hj).1
      rw [hat j hj6]
      match j, hj6, hj with
      | 0, _, hj => rw [q0]; exact hj
      | 1, _, hj => rw [q1]; exact hj
      | 2, _, hj => rw [q2]; exact hj
      | 3, _, hj => rw [q3]; exact hj
      | 4, _, hj => rw [q4]; exact hj
      | 5, _, hj => rw [q5]; exact hj
    have hex : ∃ F : Nat → BX, ∀ i, i < len → (∀ j u, (bnC (F i).1 (.slice (F i).2.2.1 (F i).2.1.length (F i).2.2.2))[j]? = some u → w.cell? ((a.add (i * 6)).add j) = some u) ∧ RsIn w (F i).2.2.1 (F i).2.1 ∧ (F i).2.1.length ≤ 140737488351232 := by
      classical
      refine ⟨fun i => if h : i < len then Classical.choose (key i h) else (⟨0, 0, 0, 0, 0⟩, [], none, 0), fun i hil => ?_⟩
      simp only [dif_pos hil]
      exact Classical.choose_spec (key i hil)
    obtain ⟨F, hF⟩ := hex
    refine ⟨some a, cap, (List.range len).map F, by simp [hxv], fun hp => ?_, fun x hx => ?_⟩
    · have hp' : 0 < len := by simpa using hp
      obtain ⟨b, off, rfl, hb⟩ := addr_plain (w := w) (a := a) (v := .int .i64 (F 0).1.base) (by
        have h0 := (hF 0 hp').1 0 _ rfl
        rw [Nat.zero_mul] at h0
        have e : ∀ a : Addr, a.add 0 = a := fun a => by unfold Addr.add; rfl
        rw [e, e] at h0
        rw [e]
        exact h0)
      refine ⟨b, off, rfl, hb, fun j o hj => ?_⟩
      obtain ⟨hj1, hj2⟩ := List.getElem?_eq_some_iff.1 hj
      have hj' : j < len := by simpa using hj1
      have : F j = o := by simpa using hj2
      subst this
      obtain ⟨h1, h2, _⟩ := hF j hj'
      rw [add_at] at h1
      have g : ∀ i u, (bnC (F j).1 (.slice (F j).2.2.1 (F j).2.1.length (F j).2.2.2))[i]? = some u → w.cell? ⟨b, off + j * 6 + i, none⟩ = some u := fun i u hu => by
        have := h1 i u hu
        rwa [add_at] at this
      exact ⟨⟨g 0 _ rfl, g 1 _ rfl, g 2 _ rfl, g 3 _ rfl, g 4 _ rfl, g 5 _ rfl⟩, h2⟩
    · obtain ⟨i, hi', rfl⟩ := List.mem_map.1 hx
      exact (hF i (by simpa using hi')).2.2
end
end Go.Proofs.YtjnphajkoopkgaaGreatDoor
/- segment: what each call does, by data, and what it leaves as it was. Plain wrappers. No condition but that there are not too many. -/
namespace Go.Proofs.YtjnphajkoopkgaaGreatDoor
open Go.RowKit
set_option linter.unusedVariables false
/-- The kinds of blocks that a segment's and a disk's calls may write. -/
def SegK (w : World) (k : Nat) : Prop := TyB SgT w k ∨ DkB w k
theorem seg_apart {w : World} {us : List TypeId} {k : Nat} (h : SegK w k) (h' : TyB us w k) (h1 : (SgT.all fun t => !us.contains t) = true) (h2 : (us.all fun t => ![68, 108, 5].contains t) = true) : False := by
  rcases h with h | h
  · exact h.apart h' h1
  · exact h.apart h' h2
theorem btsR_seg {w w' : World} {base : Nat} {v : Value} {L : List BX} (h : BtsR w base v L) (ho : Off (SegK w) w w') : BtsR w' base v L :=
  btsR_off h ho fun k hk hr => seg_apart hk hr (by decide) (by decide)
theorem rowR_seg {w w' : World} {base : Nat} {v : Value} {L : List RX} (h : RowR w base v L) (ho : Off (SegK w) w w') : RowR w' base v L :=
  rowR_off h ho fun k hk hr => seg_apart hk hr (by decide) (by decide)
theorem box_seg {w w' : World} {g : Nat} {t : TypeId} {cs : Array Value} (h : Box w g t cs) (ho : Off (SegK w) w w') (h1 : (SgT.all fun u => ![t].contains u) = true) (h2 : ([t].all fun u => ![68, 108, 5].contains u) = true) : Box w' g t cs :=
  h.off ho fun hk => seg_apart hk ⟨cs, t, (0, 0), h, List.mem_singleton.2 rfl⟩ h1 h2
theorem at_seg {W w : World} {k : Nat} (h : AtS W w k) : SegK w k := .inr h.2
theorem sd_seg {W w : World} {p q : Nat} {a : Dk.Ab} {s : SG} (h : SD W p q a s w) {k : Nat} (hk : SdF W w s q k) : SegK w k := by
  rcases hk with hk | hk
  · exact .inl (sg_kind h.sg hk)
  · exact at_seg hk
/-- A store into a batch's box leaves a segment as it was. -/
theorem So.batch {W w w' : World} {p q g : Nat} {n : ByteArray} {base : Int} {N : List BR} {safe : Nat} {room : Int} {cs : Array Value} (h : So W p q n base N safe room w) (hg : Box w g 44 cs) (hw : W.heap.size ≤ g) (ho : Off (fun k => k = g) w w') : So W p q n base N safe room w' := by
  obtain ⟨a, s, h1, h2⟩ := h
  have hty : TyB [44] w g := ⟨cs, _, (0, 0), hg, List.mem_singleton.2 rfl⟩
  refine ⟨a, s, ⟨at_off h1.dk ho (fun k hk _ hd => ?_) (fun k hk => hk ▸ hw), h1.sg.off ho (fun k hk ht => ?_) (fun k ht hr => ?_), h1.hp, h1.ok⟩, h2⟩
  · subst hk
    exact hd.apart hty (by decide)
  · subst ht
    exact (sg_kind h1.sg hk).apart hty (by decide)
  · subst ht
    exact hr.apart hty (by decide)
theorem so_sync_x (W w : World) (p q : Nat) (n : ByteArray) (base : Int) (N : List BR) (safe : Nat) (room : Int) (h : So W p q n base N safe room w) :
    Calls Tryz.prog 20 #[sp q] w (fun e w' => e = .returned (.int .i64 0) ∧ So W p q n base N (lenN N) room w' ∧ Off (SegK w) w w') := by
  obtain ⟨a, s, h1, h2, h3, h4, h5, h6⟩ := h
  refine (sync_c W w p q a s h1).mono ?_
  obtain ⟨o1, o2, o3⟩ := h2.syn
  rw [lenN_bytes] at o1
  rintro e w' ⟨rfl, s', g1, g2, g3, g4, _⟩
  have e0 : syE a s = 0 := by
    unfold syE
    rw [h4]
    rcases o3 with e | e
    · rw [e]; rfl
    · rw [e]; rfl
  rw [e0]
  rw [h4] at g1
  exact ⟨rfl, ⟨_, s', g1, o1, by rw [o2, h3], by rw [g3.1, h4], by rw [g3.2.1, h5], by rw [g2, h6]⟩, g4.mono fun k _ hk => sd_seg h1 hk⟩
/-- Any batch that begins at the end: it is there, or nothing has turned. -/
theorem so_append_any (W w : World) (p q : Nat) (n : ByteArray) (base : Int) (N : List BR) (safe : Nat) (room : Int) (h : So W p q n base N safe room w) (hT : Tab W) (hl : N.length ≤ 50000) (b : BN) (R : List RX) (A : Option Addr) (c : Nat)
    (hin : RsIn w A R) (hR : R.length ≤ 140737488351232) :
    Calls Tryz.prog 19 #[sp q, .agg (bnC b (.slice A R.length c))] w (fun e w' => (∃ v : Int, e = .returned (.int .i64 v) ∧ ((v = 0 ∧ batB b R = true ∧ (endN base N ≤ b.base ∧ ((lenN (N ++ [(b, R.map (·.1))]) : Nat) : Int) ≤ room) ∧ So W p q n base (N ++ [(b, R.map (·.1))]) safe room w') ∨ (v ≠ 0 ∧ So W p q n base N safe room w'))) ∧ Off (SegK w) w w') := by
  obtain ⟨a, s, h1, h2, h3, h4, h5, h6⟩ := h
  have hl' : s.L.length ≤ 50000 := by rw [← h6, List.length_map] at hl; exact hl
  have hend : s.end_ = endN base N := by rw [← h6, endN_told, ← h5]; rfl
  have hnb : Dk.nameB n = true := by rw [← h4]; exact h1.ok.name
  obtain ⟨a1, a2⟩ := h2.app (s := encB b R) hnb
  refine (append_c W w p q a s b R A c h1 hT hl' (Nat.le_trans h2.len (by decide)) hin hR).mono ?_
  rintro e w' ⟨rfl, s', g1, g2, g3, g4, _⟩
  refine ⟨⟨_, rfl, ?_⟩, g4.mono fun k _ hk => sd_seg h1 hk⟩
  by_cases e0 : apE a s b R = 0
  · left
    have e1 : apA a s b R = Dk.appA a n (encB b R) := by unfold apA; rw [if_pos e0, h4]
    have e2 : apN a s b R = N ++ [(b, R.map (·.1))] := by unfold apN; rw [if_pos e0, h6]
    rw [e1] at g1
    rw [e2] at g2
    have hbb : batB b R = true := by
      unfold apE at e0
      split at e0
      · assumption
      · exact absurd e0 (by decide)
    have hbe : ¬ b.base < s.end_ := fun hc => by
      unfold apE at e0
      rw [if_pos hbb, if_pos hc] at e0
      exact absurd e0 (by decide)
    have hap : Dk.appE a n (encB b R) = 0 := by
      unfold apE at e0
      rw [if_pos hbb, if_neg hbe, h4] at e0
      exact e0
    have hno : ¬ a.room - ((bytesN N).length : Int) < ((encB b R).size : Int) := fun hc => by
      rw [hap, if_pos hc] at a1
      exact absurd a1 (by decide)
    obtain ⟨o1, o2⟩ := a2 hno
    have hbs : bytesN N ++ (encB b R).data.toList = bytesN (N ++ [(b, R.map (·.1))]) := by
      rw [bytesN_app]
      congr 1
      show _ = (encB b (toRX (R.map (·.1)))).data.toList ++ []
      rw [List.append_nil, encB_congr b (toRX_map _)]
    rw [hbs] at o1
    have hlen : lenN (N ++ [(b, R.map (·.1))]) = lenN N + (encB b R).size := by
      rw [lenN_app]
      show _ + ((encB b (toRX (R.map (·.1)))).size + 0) = _
      rw [encB_congr b (toRX_map _)]
      rfl
    rw [h3, lenN_bytes] at hno
    exact ⟨e0, hbb, ⟨by omega, by rw [hlen]; omega⟩, _, s', g1, o1, by rw [o2, h3], by rw [g3.1, h4], by rw [g3.2.1, h5], g2⟩
  · right
    have e1 : apA a s b R = a := by unfold apA; rw [if_neg e0]
    have e2 : apN a s b R = N := by unfold apN; rw [if_neg e0]; exact h6
    rw [e1] at g1
    rw [e2] at g2
    exact ⟨e0, _, s', g1, h2, h3, by rw [g3.1, h4], by rw [g3.2.1, h5], g2⟩
theorem so_crash_x (W w : World) (p : Nat) (n : ByteArray) (bs : List UInt8) (safe : Nat) (room : Int) (h : Dn W p n bs safe room w) (hs : safe ≤ bs.length) (g : Nat) (k0 : Int) (hk : Box w g 3 #[.int .i64 k0]) (hr : -9223372036854775808 ≤ k0 ∧ k0 ≤ 9223372036854775807) :
    Calls Tryz.prog 23 #[Dk.dp p, .slice (some ⟨g, 0, none⟩) 1 1] w (fun e w' => ((∃ v, e = .returned (.int .i64 v)) ∧ ∃ m, safe ≤ m ∧ m ≤ bs.length ∧ Dn W p n (bs.take m) m room w') ∧ Off (SegK w) w w') := by
  obtain ⟨a, h1, h2, h3⟩ := h
  refine ((Dk.crash_do p a (AtS W w) w (at_kind h1) (Nat.le_trans h2.len (by decide)) (some ⟨g, 0, none⟩) 1 [k0] (show 1 ≤ 9223372036854775807 by decide) ⟨fun n hn => ?_, fun _ => ⟨g, 0, rfl, hk.lt, fun hc => hc.2.apart ⟨_, _, (0, 0), hk, List.mem_singleton.2 rfl⟩ (by decide), fun j hj => ?_⟩⟩).mono (fun _ _ hd => at_out h1 hd)).mono ?_
  · have : n = k0 := by simpa using hn
    subst this
    exact hr
  · match j with
    | 0 => exact hk.cell 0
    | j + 1 => exact absurd hj (by simp)
  · rintro e w' ⟨rfl, h', ho⟩
    obtain ⟨m, m1, m2, m3, m4, m5⟩ := h2.crash [k0] hs
    exact ⟨⟨⟨_, rfl⟩, m, m1, m2, _, h', m3, by rw [m4, h3]⟩, ho.mono fun k _ hk => at_seg hk⟩
/-- Opening a file that has the first bytes of batches. -/
theorem so_open_x (W w : World) (p : Nat) (n : ByteArray) (base every : Int) (N : List BR) (m safe : Nat) (room : Int) (h : Dn W p n ((bytesN N).take m) safe room w) (hm : m ≤ lenN N) (hg : ∀ x ∈ N, goodR x) (hc : ChainN base N) (hT : Tab W) (hok : OpOk n base every) (hsz : m ≤ 400000) (hsf : safe ≤ m) :
    Calls Tryz.prog 9 #[Dk.dp p, .string n, .int .i64 base, .int .i64 every] w (fun e w' => ∃ q j, e = .returned (.tuple #[sp q, .int .i64 0]) ∧ j ≤ N.length ∧ lenN (N.take j) ≤ m ∧ (∀ i, i ≤ N.length → lenN (N.take i) ≤ m → i ≤ j) ∧ So W p q n base (N.take j) (min safe (lenN (N.take j))) room w' ∧ Off (SegK w) w w') := by
  obtain ⟨a, h1, h2, h3⟩ := h
  have hbl : ((bytesN N).take m).length = m := by rw [List.length_take, lenN_bytes]; omega
  have hf := h2.read
  have hfs : (fileT a n).size = m := by rw [hf]; show (((bytesN N).take m).toArray).size = m; rw [List.size_toArray, hbl]
  refine (open_c W w p a n base every h1 hT hok h2.up (by omega)).mono ?_
  rintro e w' ⟨q, s, rfl, g1, g2, g3, g4, g5, _, g6⟩
  obtain ⟨j, j1, j2, j3, j4⟩ := scan_part hg hm
  have hN : opN a n base = N.take j := by
    unfold opN
    rw [hf, j2]
    exact follow_chain (chain_take j hc)
  rw [hN] at g5
  refine ⟨q, j, rfl, j1, j3, j4, ⟨opA a n base, s, g1, ?_, ?_, g2, g3, g5⟩, g6.mono fun k _ hk => at_seg hk⟩
  · unfold opA
    rw [hN, hfs]
    by_cases hlt : lenN (N.take j) < m
    · rw [if_pos hlt]
      have := (h2.cut (lenN (N.take j)) (by omega)).1
      rw [List.take_take, Nat.min_eq_left j3] at this
      rw [bytes_take] at this
      exact this
    · rw [if_neg hlt]
      have he : lenN (N.take j) = m := by omega
      rw [← he, bytes_take] at h2
      rw [Nat.min_eq_left (by omega)]
      exact h2
  · unfold opA
    rw [hN, hfs]
    by_cases hlt : lenN (N.take j) < m
    · rw [if_pos hlt, (h2.cut (lenN (N.take j)) (by omega)).2, h3]
    · rw [if_neg hlt, h3]
theorem readS_mem {from_ most : Int} : ∀ {L : List BR} {n : Nat} {has : Bool}, (∀ q ∈ readS from_ most n has L, q ∈ L) ∧ (readS from_ most n has L).length ≤ L.length
  | [], _, _ => ⟨fun q h => h, Nat.le_refl _⟩
  | x :: L, n, has => by
    unfold readS
    split
    · obtain ⟨h1, h2⟩ := readS_mem (from_ := from_) (most := most) (L := L) (n := n) (has := has)
      exact ⟨fun q h => List.mem_cons_of_mem _ (h1 q h), Nat.le_succ_of_le h2⟩
    · split
      · exact ⟨fun q h => (by cases h), Nat.zero_le _⟩
      · obtain ⟨h1, h2⟩ := readS_mem (from_ := from_) (most := most) (L := L) (n := n + (encT x).size) (has := true)
        refine ⟨fun q h => ?_, Nat.succ_le_succ h2⟩
        rcases List.mem_cons.1 h with rfl | h
        · exact List.mem_cons_self
        · exact List.mem_cons_of_mem _ (h1 q h)
theorem good_rec {q : BR} (h : goodR q) : q.2.length ≤ 50 ∧ ∀ r ∈ q.2, okRec r = true := by
  obtain ⟨h1, h2⟩ := bat_recs h
  unfold toRX at h1 h2
  rw [List.length_map] at h1
  exact ⟨h1, fun r hr => h2 (r, none, 0) (List.mem_map.2 ⟨r, hr, rfl⟩)⟩
theorem good_told_in {M : List BX} {R : List BR} (hM : M.map BX.told = R) (hg : ∀ q ∈ R, goodR q) : (∀ x ∈ R, ∀ r ∈ x.2, okRec r = true) ∧ ∀ x ∈ M, x.2.1.length ≤ 1000 ∧ ∀ y ∈ x.2.1, y.1.heads.length ≤ 1000 := by
  refine ⟨fun x hx => (good_rec (hg x hx)).2, fun x hx => ?_⟩
  have hq : x.told ∈ R := hM ▸ List.mem_map.2 ⟨x, hx, rfl⟩
  obtain ⟨h1, h2⟩ := good_rec (hg _ hq)
  have h1' : (x.2.1.map (·.1)).length ≤ 50 := h1
  rw [List.length_map] at h1'
  refine ⟨by omega, fun y hy => ?_⟩
  have h3 := h2 y.1 (List.mem_map.2 ⟨y, hy, rfl⟩)
  have := ok_heads h3
  omega
end Go.Proofs.YtjnphajkoopkgaaGreatDoor
/- segment: opened again it is the same; what stands ahead of its end is refused: the law's walk. No condition. -/
namespace Go.Proofs.YtjnphajkoopkgaaGreatDoor
open Go.RowKit
set_option linter.unusedVariables false
def AgS (W : World) (q : Nat) (base : Int) (k : Nat) (N : List BR) (w : World) : Prop := So W W.heap.size q na base N 0 100000 w ∧ N.length ≤ k ∧ (lenN N : Int) ≤ 100000
theorem AgS.later {W w w' : World} {q k : Nat} {base : Int} {N : List BR} (h : AgS W q base k N w) (hb : Below w.heap.size w w') : AgS W q base k N w' := ⟨h.1.later hb, h.2⟩
theorem lv_new2 (W : World) : Calls Tryz.prog 7 #[.int .i64 100000] W (fun e w' => e = .returned (.tuple #[Dk.dp W.heap.size, .int .i64 0]) ∧ Dn W W.heap.size na [] 0 100000 w') :=
  (Dk.at_new 100000 (by decide) (Below.refl _ _)).mono fun e w' h => ⟨h.1, _, h.2, one_new _ _, rfl⟩
theorem end_snoc (base : Int) (N : List BR) (q : BR) : endN base (N ++ [q]) = q.1.base + q.1.span := by unfold endN; simp
theorem rowR_batch {w w' : World} {g b : Nat} {v : Value} {L : List RX} {cs : Array Value} (h : RowR w b v L) (hg : Box w g 44 cs) (ho : Off (fun k => k = g) w w') : RowR w' b v L :=
  rowR_off h ho fun k hk hr => by
    subst hk
    exact hr.apart ⟨cs, _, (0, 0), hg, List.mem_singleton.2 rfl⟩ (by decide)
/-- All of it, opened again. -/
theorem so_again (W w : World) (p q : Nat) (n : ByteArray) (base every : Int) (N : List BR) (safe : Nat) (room : Int) (h : So W p q n base N safe room w) (hT : Tab W) (hok : OpOk n base every) (hsz : lenN N ≤ 400000) (hsf : safe ≤ lenN N) :
    Calls Tryz.prog 9 #[Dk.dp p, .string n, .int .i64 base, .int .i64 every] w (fun e w' => ∃ q2, e = .returned (.tuple #[sp q2, .int .i64 0]) ∧ So W p q2 n base N safe room w' ∧ Off (SegK w) w w') := by
  have hd := h.dn
  rw [← List.take_of_length_le (l := bytesN N) (i := lenN N) (by rw [lenN_bytes]; exact Nat.le_refl _)] at hd
  refine (so_open_x W w p n base every N (lenN N) safe room hd (Nat.le_refl _) h.good h.chain hT hok hsz hsf).mono ?_
  rintro e w' ⟨q2, j, rfl, j1, j2, j3, hs, ho⟩
  have hj : j = N.length := Nat.le_antisymm j1 (j3 _ (Nat.le_refl _) (by rw [List.take_length]; exact Nat.le_refl _))
  subst hj
  rw [List.take_length, Nat.min_eq_left hsf] at hs
  exact ⟨q2, rfl, hs, ho⟩
set_option maxHeartbeats 16000000 in
set_option maxRecDepth 100000 in
theorem segmentAgain_walk (L : List BX) (A : Option Addr) (c : Nat) (base : Int) (W : World) (hA : BsIn W A L) (hr : ∀ x ∈ L, x.2.1.length ≤ 140737488351232) {pp : Prop} (hbw : pp) (hT : Tab W) :
    Calls Tryz.prog 6 #[.slice A L.length c, .int .i64 base] W (Good W (.bool true)) := by
  have HA := Lib.hid hA
  have HR := Lib.hid hr
  have HT := Lib.hid hT
  have cl := live10_c W hT
  by_cases hg : 8 < L.length ∨ base < 0 ∨ 1000000 < base
  · clear hA hr hbw hT
    go_enter Tryz.func6, Tryz.ntmps6
    by_cases h8 : 8 < L.length
    · have h8' : (8 : Int) < (L.length : Int) := by omega
      clear hg
      go_wp2_with fail
      (with_reducible refine cl.mono ?_)
      rintro e w1 ⟨rfl, hb⟩
      go_wp2_with fail
      go_ret
      exact ⟨rfl, hb⟩
    · have h8' : ¬ (8 : Int) < (L.length : Int) := by omega
      by_cases h0 : base < 0
      · clear hg
        go_wp2_with fail
        (with_reducible refine cl.mono ?_)
        rintro e w1 ⟨rfl, hb⟩
        go_wp2_with fail
        go_ret
        exact ⟨rfl, hb⟩
      · have h1 : 1000000 < base := by omega
        clear hg
        go_wp2_with fail
        (with_reducible refine cl.mono ?_)
        rintro e w1 ⟨rfl, hb⟩
        go_wp2_with fail
        go_ret
        exact ⟨rfl, hb⟩
  · have h8 : L.length ≤ 8 := by omega
    have h8' : ¬ (8 : Int) < (L.length : Int) := by omega
    have h0 : ¬ base < 0 := by omega
    have h1 : ¬ 1000000 < base := by omega
    have hop : OpOk na base 50 := ⟨⟨by decide, by decide⟩, ⟨by omega, by omega⟩, by decide, by decide⟩
    have hop3 : OpOk na base 3 := ⟨⟨by decide, by decide⟩, ⟨by omega, by omega⟩, by decide, by decide⟩
    have HOP := Lib.hid hop3
    have c1 := lv_new2 W
    have c2 := fun w hd => so_open0 W w W.heap.size na base 50 100000 hd hT hop
    unfold Dk.dp at c1
    unfold Dk.dp sp na at c2
    clear hA hr hbw hT cl hg hop hop3
    go_enter Tryz.func6, Tryz.ntmps6
    go_wp2_with fail
    (with_reducible refine c1.mono ?_)
    rintro e w1 ⟨rfl, hd⟩
    have c3 := c2 w1 hd
    clear c1 c2 hd
    go_wp2_with fail
    (with_reducible refine c3.mono ?_)
    rintro e w2 ⟨q, rfl, hs⟩
    have HS : Hid (AgS W q base 0 [] w2) := Lib.hid ⟨hs, Nat.le_refl _, by decide⟩
    clear c3 hs
    go_wp2_with fail
    go_loopw [9] (fun j wr => ∃ (k : Nat) (N : List BR), j = .int .i64 k ∧ k ≤ L.length ∧ AgS W q base k N wr) (fun j _ => L.length - (intOf j).toNat)
    case atStart => exact ⟨0, [], rfl, Nat.zero_le _, HS.out⟩
    case round =>
      obtain ⟨k, N, rfl, hk, hN⟩ := hrel
      have HN := Lib.hid hN
      clear hN HS
      by_cases hkl : k < L.length
      · have hki : (k : Int) < (L.length : Int) := by omega
        have hk0 : (0 : Int) ≤ (k : Int) := by omega
        obtain ⟨x, hx⟩ : ∃ x, L[k]? = some x := ⟨_, List.getElem?_eq_getElem hkl⟩
        have hbw := HN.out.1.bel
        obtain ⟨b, off, rfl, hbl, hca⟩ := (HA.out.below hbw) (by omega)
        obtain ⟨⟨z0, z1, z2, z3, z4, z5⟩, hrs⟩ := hca k x hx
        have hxl := HR.out x (List.mem_of_getElem? hx)
        have cs := rsmall_c x.1 x.2.1 x.2.2.1 x.2.2.2 wr hrs hxl
        obtain ⟨⟨bs, span, prod, epoch, seq⟩, R, RA, rc⟩ := x
        have HX := Lib.hid (And.intro hrs (And.intro hbl (And.intro z0 (And.intro z1 (And.intro z2 (And.intro z3 (And.intro z4 z5)))))))
        unfold bnC at cs
        dsimp only at *
        clear hca hx hrs hxl
        generalize hk6 : k * 6 = k6 at *
        go_wp2_with fail
        (with_reducible refine cs.mono ?_)
        rintro e w3 ⟨res, rfl, hsm, hb3⟩
        have HN3 := Lib.hid (HN.out.later hb3)
        cases res with
        | false =>
          have cl := live10_c w3 (HT.out.below HN3.out.1.bel)
          clear cs hsm hb3
          go_wp2_with fail
          (with_reducible refine cl.mono ?_)
          rintro e w4 ⟨rfl, hb⟩
          have HN4 := Lib.hid (HN3.out.later hb)
          clear cl hb
          go_wp2_with fail
          go_ret
          exact ⟨rfl, HN4.out.1.bel⟩
        | true =>
          have hsm' := hsm rfl
          have hrs3 := HX.out.1.below hb3
          obtain ⟨_, _, y0, y1, y2, y3, y4, y5⟩ := HX.out
          have hc := fun i => hb3.cell (p := ⟨b, i, none⟩) hbl
          have x0 := (hc _).trans y0
          have x1 := (hc _).trans y1
          have x2 := (hc _).trans y2
          have x3 := (hc _).trans y3
          have x4 := (hc _).trans y4
          have x5 := (hc _).trans y5
          have hbl3 : b < w3.heap.size := Nat.lt_of_lt_of_le hbl hb3.size
          have cc := rcopy5_c ⟨bs, span, prod, epoch, seq⟩ R RA rc w3 hrs3 (by have := hsm'.1; omega) (fun y hy => by have := (hsm'.2 y hy).1; omega)
          have HSM := Lib.hid hsm'
          unfold CopiedB bnC at cc
          dsimp only at *
          clear cs hsm hsm' hb3 hrs3 y0 y1 y2 y3 y4 y5 hc z0 z1 z2 z3 z4 z5 hbl
          go_wp2_with fail
          (with_reducible refine cc.mono ?_)
          rintro e w4 ⟨M, MA, mc, hm, rfl, hrow, hb4⟩
          have hN4 := HN3.out.later hb4
          have hal : Below w4.heap.size w4 (w4.alloc (.cells #[.int .i64 bs, .int .i64 span, .int .i64 prod, .int .i64 epoch, .int .i64 seq, .slice MA M.length mc] 44)) := (Below.refl _ _).alloc (Nat.le_refl _) _
          have hbx := Box.new w4 44 #[.int .i64 bs, .int .i64 span, .int .i64 prod, .int .i64 epoch, .int .i64 seq, .slice MA M.length mc]
          have hNa := hN4.later hal
          have HROW := Lib.hid (And.intro hrow (And.intro hm (And.intro hal hbx)))
          have hgW : W.heap.size ≤ w4.heap.size := hN4.1.bel.size
          have HGW := Lib.hid hgW
          have HNA := Lib.hid hNa
          have ce := so_end W _ W.heap.size q na base N 0 100000 hNa.1 (by have := hNa.2.1; omega)
          generalize hE : endN base N = E at *
          have HE := Lib.hid hE
          unfold sp at ce
          clear cc hrow hm hb4 hN4 hal hbx hNa hgW hE x0 x1 x2 x3 x4 x5 hbl3
          go_wp2_with fail
          (with_reducible refine ce.mono ?_)
          rintro e w5 ⟨rfl, hb5⟩
          have hN5 := HNA.out.later hb5
          have hbx5 := HROW.out.2.2.2.later hb5
          have hbx6 := hbx5.set 0 (.int .i64 E)
          have hoff := Off.one w5 ⟨w4.heap.size, 0, none⟩ (.int .i64 E)
          have hN6 : AgS W q base k N (w5.setCell ⟨w4.heap.size, 0, none⟩ (.int .i64 E)) := ⟨hN5.1.batch hbx5 HGW.out hoff, hN5.2⟩
          have hrow6 := rowR_batch ((HROW.out.1.later HROW.out.2.2.1).later hb5) hbx5 hoff
          have z0 := (hbx5.cell 0).trans (show _ = some (.int .i64 bs) from rfl)
          have f0 := hbx5.frozen 0
          have zl := hbx5.lt
          have y0 := (hbx6.cell 0).trans (show _ = some (.int .i64 E) from rfl)
          have y1 := (hbx6.cell 1).trans (show _ = some (.int .i64 span) from rfl)
          have y2 := (hbx6.cell 2).trans (show _ = some (.int .i64 prod) from rfl)
          have y3 := (hbx6.cell 3).trans (show _ = some (.int .i64 epoch) from rfl)
          have y4 := (hbx6.cell 4).trans (show _ = some (.int .i64 seq) from rfl)
          have y5 := (hbx6.cell 5).trans (show _ = some (.slice MA M.length mc) from rfl)
          have hMs : ∀ y ∈ M, smallR y.1 := fun y hy => by
            have h1 : y.1 ∈ R.map (·.1) := HROW.out.2.1 ▸ List.mem_map.2 ⟨y, hy, rfl⟩
            obtain ⟨r, hr, e⟩ := List.mem_map.1 h1
            rw [← e]
            exact HSM.out.2 r hr
          have hMl : M.length ≤ 50 := by
            have h1 := congrArg List.length HROW.out.2.1
            rw [List.length_map, List.length_map] at h1
            have := HSM.out.1
            omega
          have ca := so_append_any W _ W.heap.size q na base N 0 100000 hN6.1 HT.out (by have := hN6.2.1; omega) ⟨E, span, prod, epoch, seq⟩ M MA mc (hrow6.rsinS hMs) (by omega)
          have H6 := Lib.hid (And.intro hN6 (And.intro hrow6 (And.intro hbx6 (And.intro hMs hMl))))
          unfold sp bnC at ca
          dsimp only at ca
          clear ce hb5 hN5 hbx5 hbx6 hoff hN6 hrow6 hMs hMl
          go_wp2_with fail
          (with_reducible refine ca.mono ?_)
          rintro e w7 ⟨⟨v, rfl, hv⟩, ho7⟩
          rcases hv with ⟨rfl, hbb, ⟨hle, hroom⟩, hs7⟩ | ⟨hv0, hs7⟩
          · obtain ⟨⟨n1, n2⟩, n3, n4⟩ := bat_num hbb
            dsimp only at n1 n2 n3 n4
            have hN7 : AgS W q base (k + 1) (N ++ [(⟨E, span, prod, epoch, seq⟩, M.map (·.1))]) w7 := ⟨hs7, by rw [List.length_append]; exact Nat.succ_le_succ H6.out.1.2.1, hroom⟩
            have hen := end_snoc base N ((⟨E, span, prod, epoch, seq⟩, M.map (·.1)) : BR)
            dsimp only at hen
            obtain ⟨E2, hE2⟩ : ∃ z, E + span = z := ⟨_, rfl⟩
            rw [hE2] at hen
            generalize N ++ [((⟨E, span, prod, epoch, seq⟩, M.map (·.1)) : BR)] = N2 at *
            have hl2 : N2.length ≤ 50000 := by have := hN7.2.1; omega
            have ce := so_end W w7 W.heap.size q na base N2 0 100000 hN7.1 hl2
            rw [hen] at ce
            have hbx7 := box_seg H6.out.2.2.1 ho7 (by decide) (by decide)
            have hrow7 := rowR_seg H6.out.2.1 ho7
            have H7 := Lib.hid (And.intro hN7 (And.intro hbx7 (And.intro hrow7 (And.intro hl2 hen))))
            have hb1 : 1 ≤ E2 := by omega
            have hb2 : E2 ≤ 1099511627826 := by omega
            unfold sp at ce
            clear ca ho7 hbb hle hroom hs7 n1 n2 n3 n4 hN7 hen hE2 hl2 hbx7 hrow7 z0 f0 zl y0 y1 y2 y3 y4 y5
            go_wp2_with fail
            (with_reducible refine ce.mono ?_)
            rintro e w8 ⟨rfl, hb8⟩
            have hN8 := H7.out.1.later hb8
            have hbx8 := H7.out.2.1.later hb8
            have hbx9 := hbx8.set 0 (.int .i64 (E2 - 1))
            have hoff := Off.one w8 ⟨w4.heap.size, 0, none⟩ (.int .i64 (E2 - 1))
            have hN9 : AgS W q base (k + 1) N2 (w8.setCell ⟨w4.heap.size, 0, none⟩ (.int .i64 (E2 - 1))) := ⟨hN8.1.batch hbx8 HGW.out hoff, hN8.2⟩
            have hrow9 := rowR_batch (H7.out.2.2.1.later hb8) hbx8 hoff
            have z0 := (hbx8.cell 0).trans (show _ = some (.int .i64 E) from rfl)
            have f0 := hbx8.frozen 0
            have zl := hbx8.lt
            have y0 := (hbx9.cell 0).trans (show _ = some (.int .i64 (E2 - 1)) from rfl)
            have y1 := (hbx9.cell 1).trans (show _ = some (.int .i64 span) from rfl)
            have y2 := (hbx9.cell 2).trans (show _ = some (.int .i64 prod) from rfl)
            have y3 := (hbx9.cell 3).trans (show _ = some (.int .i64 epoch) from rfl)
            have y4 := (hbx9.cell 4).trans (show _ = some (.int .i64 seq) from rfl)
            have y5 := (hbx9.cell 5).trans (show _ = some (.slice MA M.length mc) from rfl)
            have cn := so_append_no W _ W.heap.size q na base N2 0 100000 hN9.1 HT.out H7.out.2.2.2.1 ⟨E2 - 1, span, prod, epoch, seq⟩ M MA mc (hrow9.rsinS H6.out.2.2.2.1) (by have := H6.out.2.2.2.2; omega) (.inr (by rw [H7.out.2.2.2.2]; show E2 - 1 < E2; omega))
            have HL9 := Lib.hid hN9.2
            unfold sp bnC at cn
            dsimp only at cn
            clear ce hb8 hN8 hbx8 hbx9 hoff hN9 hrow9
            go_wp2_with fail
            (with_reducible refine cn.mono ?_)
            rintro e w10 ⟨rfl, hs10⟩
            have HS10 := Lib.hid hs10
            clear cn hs10 z0 f0 zl y0 y1 y2 y3 y4 y5
            go_wp2_with fail
            exact ⟨⟨k + 1, N2, by go_num, hkl, HS10.out, HL9.out⟩, by simp [intOf]; omega⟩
          · have hv0' : (v != 0) = true := by simpa using hv0
            have HS7 := Lib.hid hs7
            have HL7 := Lib.hid H6.out.1.2
            clear ca ho7 hs7 z0 f0 zl y0 y1 y2 y3 y4 y5 hv0
            go_wp2_with fail
            exact ⟨⟨k + 1, N, by go_num, hkl, HS7.out, Nat.le_succ_of_le HL7.out.1, HL7.out.2⟩, by simp [intOf]; omega⟩
      · have hki : ¬ (k : Int) < (L.length : Int) := by omega
        have hl : N.length ≤ 50000 := by have := HN.out.2.1; omega
        have HL := Lib.hid hl
        have c1 := so_end W wr W.heap.size q na base N 0 100000 HN.out.1 hl
        unfold sp at c1
        clear hl
        generalize hE : endN base N = E at *
        go_wp2_with fail
        (with_reducible refine c1.mono ?_)
        rintro e w1 ⟨rfl, hb1⟩
        have HN1 := Lib.hid (HN.out.1.later hb1)
        have c2 := so_size W w1 W.heap.size q na base N 0 100000 HN1.out HL.out
        generalize hZ : lenN N = Z at *
        unfold sp at c2
        clear c1 hb1
        go_wp2_with fail
        (with_reducible refine c2.mono ?_)
        rintro e w2 ⟨rfl, hb2⟩
        have HN2 := Lib.hid (HN1.out.later hb2)
        have c3 := so_read W w2 W.heap.size q na base N 0 100000 HN2.out HL.out base 1000000
        unfold sp at c3
        clear c2 hb2
        go_wp2_with fail
        (with_reducible refine c3.mono ?_)
        rintro e w3 ⟨M1, A1, d1, hM1, rfl, hbt, hb3⟩
        have HN3 := Lib.hid (HN2.out.later hb3)
        have HM1 := Lib.hid (And.intro hM1 hbt)
        have c4 := so_again W w3 W.heap.size q na base 3 N 0 100000 HN3.out HT.out HOP.out (by rw [hZ]; have := HN.out.2.2; omega) (Nat.zero_le _)
        unfold sp Dk.dp na at c4
        clear c3 hb3 hM1 hbt
        go_wp2_with fail
        (with_reducible refine c4.mono ?_)
        rintro e w4 ⟨q2, rfl, hs4, ho4⟩
        have HN4 := Lib.hid hs4
        have HB4 := Lib.hid (btsR_seg HM1.out.2 ho4)
        have c5 := so_end W w4 W.heap.size q2 na base N 0 100000 hs4 HL.out
        rw [hE] at c5
        unfold sp at c5
        clear c4 hs4 ho4
        go_wp2_with fail
        (with_reducible refine c5.mono ?_)
        rintro e w5 ⟨rfl, hb5⟩
        have HN5 := Lib.hid (HN4.out.later hb5)
        have HB5 := Lib.hid (HB4.out.later hb5)
        have c6 := so_size W w5 W.heap.size q2 na base N 0 100000 HN5.out HL.out
        rw [hZ] at c6
        unfold sp at c6
        clear c5 hb5
        go_wp2_with fail
        (with_reducible refine c6.mono ?_)
        rintro e w6 ⟨rfl, hb6⟩
        have HN6 := Lib.hid (HN5.out.later hb6)
        have HB6 := Lib.hid (HB5.out.later hb6)
        have c7 := so_read W w6 W.heap.size q2 na base N 0 100000 HN6.out HL.out base 1000000
        unfold sp at c7
        clear c6 hb6
        go_wp2_with fail
        (with_reducible refine c7.mono ?_)
        rintro e w7 ⟨M2, A2, d2, hM2, rfl, hbt, hb7⟩
        have HN7 := Lib.hid (HN6.out.later hb7)
        have HB7 := Lib.hid (HB6.out.later hb7)
        obtain ⟨hmem, hlen⟩ := readS_mem (from_ := base) (most := 1000000) (L := N) (n := 0) (has := false)
        have hgr : ∀ x ∈ readN base 1000000 N, goodR x := fun x hx => HN.out.1.good x (hmem x hx)
        obtain ⟨ok1, sm1⟩ := good_told_in HM1.out.1 hgr
        obtain ⟨ok2, sm2⟩ := good_told_in hM2 hgr
        have hl2 : M2.length ≤ 140737488351232 := by
          have h1 := congrArg List.length hM2
          rw [List.length_map] at h1
          have h2 : (readN base 1000000 N).length ≤ N.length := hlen
          have := HL.out
          omega
        have c8 := rsameAll5_c M2 M1 A2 A1 d2 d1 w7 (hbt.bsinOk hM2 ok2) (HB7.out.bsinOk HM1.out.1 ok1) (hM2.trans HM1.out.1.symm) hl2 sm2
        clear c7 hb7 hM2 hbt hmem hlen hgr ok1 sm1 ok2 sm2 hl2
        go_wp2_with fail
        (with_reducible refine c8.mono ?_)
        rintro e w8 ⟨rfl, hb8⟩
        have HN8 := Lib.hid (HN7.out.later hb8)
        have c9 := live10_c w8 (HT.out.below HN8.out.bel)
        clear c8 hb8
        go_wp2_with fail
        (with_reducible refine c9.mono ?_)
        rintro e w9 ⟨rfl, hb9⟩
        have HN9 := Lib.hid (HN8.out.later hb9)
        clear c9 hb9
        go_wp2_with fail
        go_ret
        exact ⟨rfl, HN9.out.bel⟩
end Go.Proofs.YtjnphajkoopkgaaGreatDoor
