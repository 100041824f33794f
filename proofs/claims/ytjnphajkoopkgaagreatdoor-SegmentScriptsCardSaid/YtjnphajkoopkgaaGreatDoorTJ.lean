/- Merged texts. What each proves is told at its head. -/
import Derived.Test.YtjnphajkoopkgaaGreatDoorTD
/- segment: a disk with one file; what a scan finds in whole batches, and in the first bytes of them. Plain words. No condition. -/
namespace Go.Proofs.YtjnphajkoopkgaaGreatDoor
open Go.RowKit
set_option linter.unusedVariables false
/-- A disk that is up, with a file, or none yet. -/
def One (a : Dk.Ab) (n : List UInt8) (bs : List UInt8) (safe : Nat) : Prop := a.fused = false ∧ (a.L = [(n, bs, safe)] ∨ (a.L = [] ∧ bs = [] ∧ safe = 0))
section
variable {a : Dk.Ab} {bs : List UInt8} {safe : Nat}
theorem One.up {n : List UInt8} (h : One a n bs safe) : Dk.upA a = true := by unfold Dk.upA; rw [h.1]; rfl
theorem One.tot {n : List UInt8} (h : One a n bs safe) : Dk.totL a.L = bs.length := by
  rcases h.2 with e | ⟨e, e2, _⟩
  · rw [e]; simp [Dk.totL]
  · rw [e, e2]; rfl
theorem One.len {n : List UInt8} (h : One a n bs safe) : a.L.length ≤ 1 := by
  rcases h.2 with e | ⟨e, _⟩
  · rw [e]; exact Nat.le_refl _
  · rw [e]; exact Nat.zero_le _
theorem One.read {n : ByteArray} (h : One a n.data.toList bs safe) : fileT a n = ⟨bs.toArray⟩ := by
  unfold fileT Dk.readV
  rw [h.up]
  rcases h.2 with e | ⟨e, e2, _⟩
  · rw [e]; simp [Dk.findL]
  · rw [e, e2]; rfl
theorem One.app {n s : ByteArray} (h : One a n.data.toList bs safe) (hn : Dk.nameB n = true) :
    Dk.appE a n s = (if a.room - (bs.length : Int) < (s.size : Int) then 5 else 0) ∧ (¬ a.room - (bs.length : Int) < (s.size : Int) → One (Dk.appA a n s) n.data.toList (bs ++ s.data.toList) safe ∧ (Dk.appA a n s).room = a.room) := by
  have he : Dk.appE a n s = (if a.room - (bs.length : Int) < (s.size : Int) then 5 else 0) := by unfold Dk.appE; rw [h.up, hn, h.tot]; rfl
  refine ⟨he, fun hc => ?_⟩
  rw [if_neg hc] at he
  unfold Dk.appA
  rw [if_pos he]
  refine ⟨⟨h.1, .inl ?_⟩, rfl⟩
  rcases h.2 with e | ⟨e, e2, e3⟩
  · simp [e, Dk.findL, Dk.setL]
  · simp [e, Dk.findL, Dk.insL, e2, e3]
theorem One.syn {n : List UInt8} (h : One a n bs safe) : One (Dk.syncA a n) n bs bs.length ∧ (Dk.syncA a n).room = a.room ∧ (Dk.seeE a n = 0 ∨ Dk.seeE a n = 6) := by
  unfold Dk.syncA Dk.seeE
  rw [h.up]
  rcases h.2 with e | ⟨e, e2, e3⟩
  · have hf : Dk.findL a.L n = some (n, bs, safe) := by rw [e]; simp [Dk.findL]
    rw [hf]
    refine ⟨⟨h.1, .inl ?_⟩, rfl, .inl rfl⟩
    simp [e, Dk.setL]
  · have hf : Dk.findL a.L n = none := by rw [e]; rfl
    rw [hf]
    exact ⟨⟨h.1, .inr ⟨e, e2, by rw [e2]; rfl⟩⟩, rfl, .inr rfl⟩
theorem One.crash {n : List UInt8} (h : One a n bs safe) (keep : List Int) (hs : safe ≤ bs.length) : ∃ m, safe ≤ m ∧ m ≤ bs.length ∧ One (Dk.crashA a keep) n (bs.take m) m ∧ (Dk.crashA a keep).room = a.room ∧ (bs.length ≠ safe → m = safe + Dk.keptOf keep 0 (bs.length - safe)) := by
  unfold Dk.crashA
  rcases h.2 with e | ⟨e, e2, e3⟩
  · rw [e]
    unfold Dk.tearL
    by_cases hc : bs.length = safe
    · rw [if_pos hc]
      exact ⟨safe, Nat.le_refl _, hs, ⟨rfl, .inl (by show [(n, bs, safe)] = _; rw [← hc, List.take_length])⟩, rfl, fun x => absurd hc x⟩
    · rw [if_neg hc]
      have hk := Dk.keptOf_le keep 0 (bs.length - safe)
      exact ⟨safe + Dk.keptOf keep 0 (bs.length - safe), by omega, by omega, ⟨rfl, .inl rfl⟩, rfl, fun _ => rfl⟩
  · rw [e]
    exact ⟨0, by omega, Nat.zero_le _, ⟨rfl, .inr ⟨rfl, by simp, rfl⟩⟩, rfl, fun x => absurd (by rw [e2, e3]; rfl) x⟩
theorem One.cut {n : List UInt8} (h : One a n bs safe) (k : Nat) (hk : k ≤ bs.length) : One (Dk.cutA a n (k : Int)) n (bs.take k) (min safe k) ∧ (Dk.cutA a n (k : Int)).room = a.room := by
  unfold Dk.cutA
  rw [h.up]
  rcases h.2 with e | ⟨e, e2, e3⟩
  · have hf : Dk.findL a.L n = some (n, bs, safe) := by rw [e]; simp [Dk.findL]
    rw [hf]
    simp only
    rw [if_neg (by omega)]
    refine ⟨⟨h.1, .inl ?_⟩, rfl⟩
    simp [e, Dk.setL]
  · have hf : Dk.findL a.L n = none := by rw [e]; rfl
    rw [hf]
    have : k = 0 := by rw [e2] at hk; exact Nat.le_zero.1 hk
    subst this
    exact ⟨⟨h.1, .inr ⟨e, by simp, by rw [e3]; rfl⟩⟩, rfl⟩
theorem one_new (room : Int) (n : List UInt8) : One ⟨room, false, 0, []⟩ n [] 0 := ⟨rfl, .inr ⟨rfl, rfl, rfl⟩⟩
end
/-- The bytes of batches. -/
def catT (N : List BR) : ByteArray := ⟨(bytesN N).toArray⟩
theorem catT_size (N : List BR) : (catT N).size = lenN N := by show (bytesN N).toArray.size = _; rw [List.size_toArray, lenN_bytes]
theorem bytesN_app (M N : List BR) : bytesN (M ++ N) = bytesN M ++ bytesN N := by unfold bytesN; rw [List.flatMap_append]
theorem catT_snoc (N : List BR) (q : BR) : catT (N ++ [q]) = catT N ++ encT q := by
  apply ByteArray.ext
  apply Array.ext'
  rw [ByteArray.data_append, Array.toList_append]
  show (bytesN (N ++ [q])).toArray.toList = (bytesN N).toArray.toList ++ _
  rw [bytesN_app]
  simp [bytesN]
theorem rev_ind {p : List BR → Prop} (h0 : p []) (h1 : ∀ N q, p N → p (N ++ [q])) : ∀ N, p N := fun N => by
  have key : ∀ (n : Nat) (N : List BR), N.length = n → p N := by
    intro n
    induction n with
    | zero => intro N hN; rw [List.length_eq_zero_iff.1 hN]; exact h0
    | succ n ih =>
      intro N hN
      rcases List.eq_nil_or_concat N with rfl | ⟨L, q, rfl⟩
      · exact h0
      · have hL : L.length = n := by simpa using hN
        have := h1 L q (ih L hL)
        simpa using this
  exact key N.length N rfl
theorem scan_cat : ∀ {N : List BR}, (∀ q ∈ N, goodR q) → scanG (catT N) ((catT N).size + 1) 0 = (N, ((catT N).size : Int)) := by
  intro N
  induction N using rev_ind with
  | h0 => intro _; rfl
  | h1 N q ih =>
    intro h
    have h1 := ih (fun x hx => h x (List.mem_append.2 (.inl hx)))
    have hq : batB q.1 (toRX q.2) = true := h q (List.mem_append.2 (.inr (List.mem_singleton.2 rfl)))
    have h2 := scan_enc h1 hq
    rw [toRX_map] at h2
    rw [catT_snoc]
    exact h2
theorem take_extract (x : ByteArray) (k : Nat) : (x.extract 0 k).data.toList = x.data.toList.take k := by
  simp [ByteArray.data_extract]
/-- In the first bytes of batches the scan finds as many as are whole. -/
theorem scan_part : ∀ {N : List BR} {m : Nat}, (∀ q ∈ N, goodR q) → m ≤ lenN N → ∃ j, j ≤ N.length ∧ scanG ⟨((bytesN N).take m).toArray⟩ ((⟨((bytesN N).take m).toArray⟩ : ByteArray).size + 1) 0 = (N.take j, (lenN (N.take j) : Int)) ∧ lenN (N.take j) ≤ m ∧ ∀ i, i ≤ N.length → lenN (N.take i) ≤ m → i ≤ j := by
  intro N
  induction N using rev_ind with
  | h0 =>
    intro m _ hm
    have : m = 0 := Nat.le_zero.1 hm
    subst this
    exact ⟨0, Nat.le_refl _, rfl, Nat.le_refl _, fun i hi _ => hi⟩
  | h1 N q ih =>
    intro m h hm
    have hN := fun x hx => h x (List.mem_append.2 (.inl hx))
    have hq : batB q.1 (toRX q.2) = true := h q (List.mem_append.2 (.inr (List.mem_singleton.2 rfl)))
    have hq8 : 8 ≤ (encT q).size := (encB_size hq).1
    have hl1 : lenN (N ++ [q]) = lenN N + (encT q).size := by rw [lenN_app]; rfl
    rw [hl1] at hm
    have hbl : (bytesN N).length = lenN N := lenN_bytes N
    have hfull : (N ++ [q]).take (N.length + 1) = N ++ [q] := List.take_of_length_le (by rw [List.length_append]; exact Nat.le_refl _)
    have hin : ∀ i, i ≤ N.length → (N ++ [q]).take i = N.take i := fun i hi => List.take_append_of_le_length hi
    by_cases h1 : m ≤ lenN N
    · obtain ⟨j, hj, hs, hlj, hmx⟩ := ih hN h1
      have hb : (bytesN (N ++ [q])).take m = (bytesN N).take m := by rw [bytesN_app, List.take_append_of_le_length (by omega)]
      rw [hb]
      refine ⟨j, by rw [List.length_append]; exact Nat.le_succ_of_le hj, by rw [hin j hj]; exact hs, by rw [hin j hj]; exact hlj, fun i hi hli => ?_⟩
      rw [List.length_append] at hi
      have hi' : i ≤ N.length + 1 := hi
      by_cases hiN : i ≤ N.length
      · rw [hin i hiN] at hli
        exact hmx i hiN hli
      · have : i = N.length + 1 := by omega
        subst this
        rw [hfull, hl1] at hli
        omega
    · by_cases h2 : m = lenN N + (encT q).size
      · have hb : (bytesN (N ++ [q])).take m = bytesN (N ++ [q]) := List.take_of_length_le (by rw [lenN_bytes, hl1]; omega)
        rw [hb]
        have hsc := scan_cat h
        refine ⟨N.length + 1, by rw [List.length_append]; exact Nat.le_refl _, ?_, by rw [hfull, hl1]; omega, fun i hi _ => by rw [List.length_append] at hi; exact hi⟩
        rw [hfull]
        show scanG (catT (N ++ [q])) _ 0 = _
        rw [← catT_size]
        exact hsc
      · have hk : m - lenN N < (encT q).size := by omega
        have hsc := scan_cut (scan_cat hN) hq hk
        have hb : (⟨((bytesN (N ++ [q])).take m).toArray⟩ : ByteArray) = catT N ++ (encB q.1 (toRX q.2)).extract 0 (m - lenN N) := by
          apply ByteArray.ext
          apply Array.ext'
          rw [ByteArray.data_append, Array.toList_append, take_extract]
          show ((bytesN (N ++ [q])).take m).toArray.toList = (bytesN N).toArray.toList ++ _
          rw [bytesN_app, List.take_append, List.take_of_length_le (show (bytesN N).length ≤ m by omega), hbl, show bytesN [q] = (encT q).data.toList by simp [bytesN]]
          rw [List.toList_toArray, List.toList_toArray]
          rfl
        have e1 : (N ++ [q]).take N.length = N := by rw [hin N.length (Nat.le_refl _), List.take_length]
        rw [catT_size] at hsc
        generalize (⟨((bytesN (N ++ [q])).take m).toArray⟩ : ByteArray) = t at *
        generalize catT N ++ (encB q.1 (toRX q.2)).extract 0 (m - lenN N) = u at *
        subst hb
        refine ⟨N.length, by rw [List.length_append]; exact Nat.le_add_right _ _, ?_, ?_, fun i hi hli => ?_⟩
        · rw [e1]
          exact hsc
        · rw [e1]
          omega
        · rw [List.length_append] at hi
          have hi' : i ≤ N.length + 1 := hi
          by_cases hiN : i ≤ N.length
          · exact hiN
          · have : i = N.length + 1 := by omega
            subst this
            rw [hfull, hl1] at hli
            omega
/-- Batches that follow one another. -/
def ChainN (base : Int) : List BR → Prop
  | [] => True
  | q :: l => base ≤ q.1.base ∧ ChainN (endQ q) l
theorem follow_chain {base : Int} : ∀ {N : List BR}, ChainN base N → followN base N = N
  | [], _ => rfl
  | q :: l, h => by
    unfold followN
    rw [if_neg (by have := h.1; omega)]
    congr 1
    exact follow_chain h.2
theorem chain_take {base : Int} : ∀ {N : List BR} (j : Nat), ChainN base N → ChainN base (N.take j)
  | [], j, _ => by rw [List.take_nil]; trivial
  | q :: l, 0, _ => trivial
  | q :: l, j + 1, h => ⟨h.1, chain_take j h.2⟩
theorem chain_snoc {base : Int} : ∀ {N : List BR} {q : BR}, ChainN base N → endN base N ≤ q.1.base → ChainN base (N ++ [q])
  | [], q, _, h => ⟨h, trivial⟩
  | x :: l, q, hc, h => by
    refine ⟨hc.1, chain_snoc hc.2 ?_⟩
    have e : endN base (x :: l) = endN (endQ x) l := by
      unfold endN
      cases l with
      | nil => rfl
      | cons y l => rw [List.getLast?_cons_cons]
                    cases hl : (y :: l).getLast? with
                    | none => simp at hl
                    | some z => rfl
    rw [← e]
    exact h
theorem chain_told {s : SG} (h : SgOk s) : ChainN s.base (s.L.map PX.told) := by
  have key : ∀ j, j ≤ s.L.length → ChainN s.base ((s.L.take j).map PX.told) := by
    intro j
    induction j with
    | zero => intro _; exact trivial
    | succ j ih =>
      intro hj
      obtain ⟨x, hx⟩ : ∃ x, s.L[j]? = some x := ⟨_, List.getElem?_eq_getElem (by omega)⟩
      rw [List.take_add_one, hx, List.map_append]
      refine chain_snoc (ih (by omega)) ?_
      rw [endN_told]
      exact h.chain j x hx
  have := key s.L.length (Nat.le_refl _)
  rwa [List.take_length] at this
theorem good_told {s : SG} (h : SgOk s) : ∀ q ∈ s.L.map PX.told, goodR q := fun q hq => by
  obtain ⟨x, hx, rfl⟩ := List.mem_map.1 hq
  exact goodR_told (h.bats x hx)
end Go.Proofs.YtjnphajkoopkgaaGreatDoor
/- segment: a segment and its disk of one file by their data: what each call does. Plain wrappers. No condition but that there are not too many. -/
namespace Go.Proofs.YtjnphajkoopkgaaGreatDoor
open Go.RowKit
set_option linter.unusedVariables false
/-- A disk made behind W with one file of such bytes, so many of them safe. -/
def Dn (W : World) (p : Nat) (n : ByteArray) (bs : List UInt8) (safe : Nat) (room : Int) (w : World) : Prop := ∃ a, Dk.At W p a w ∧ One a n.data.toList bs safe ∧ a.room = room
/-- A segment on it that has these batches. -/
def So (W : World) (p q : Nat) (n : ByteArray) (base : Int) (N : List BR) (safe : Nat) (room : Int) (w : World) : Prop :=
  ∃ a s, SD W p q a s w ∧ One a n.data.toList (bytesN N) safe ∧ a.room = room ∧ s.name = n ∧ s.base = base ∧ s.L.map PX.told = N
section
variable {W w w' : World} {p q : Nat} {n : ByteArray} {base : Int} {N : List BR} {bs : List UInt8} {safe : Nat} {room : Int}
theorem Dn.later (h : Dn W p n bs safe room w) (hb : Below w.heap.size w w') : Dn W p n bs safe room w' := by
  obtain ⟨a, h1, h2⟩ := h
  exact ⟨a, h1.later hb, h2⟩
theorem So.later (h : So W p q n base N safe room w) (hb : Below w.heap.size w w') : So W p q n base N safe room w' := by
  obtain ⟨a, s, h1, h2⟩ := h
  exact ⟨a, s, h1.later hb, h2⟩
theorem So.dn (h : So W p q n base N safe room w) : Dn W p n (bytesN N) safe room w := by
  obtain ⟨a, s, h1, h2, h3, _⟩ := h
  exact ⟨a, h1.dk, h2, h3⟩
theorem So.bel (h : So W p q n base N safe room w) : Below W.heap.size W w := by
  obtain ⟨a, s, h1, _⟩ := h
  exact h1.bel
theorem Dn.bel (h : Dn W p n bs safe room w) : Below W.heap.size W w := by
  obtain ⟨a, h1, _⟩ := h
  exact h1.2
theorem So.chain (h : So W p q n base N safe room w) : ChainN base N := by
  obtain ⟨a, s, h1, h2, h3, h4, h5, h6⟩ := h
  have := chain_told h1.ok
  rw [h5, h6] at this
  exact this
theorem So.good (h : So W p q n base N safe room w) : ∀ x ∈ N, goodR x := by
  obtain ⟨a, s, h1, h2, h3, h4, h5, h6⟩ := h
  have := good_told h1.ok
  rw [h6] at this
  exact this
end
theorem so_end (W w : World) (p q : Nat) (n : ByteArray) (base : Int) (N : List BR) (safe : Nat) (room : Int) (h : So W p q n base N safe room w) (hl : N.length ≤ 600000) :
    Calls Tryz.prog 14 #[sp q] w (Good w (.int .i64 (endN base N))) := by
  obtain ⟨a, s, h1, h2, h3, h4, h5, h6⟩ := h
  have hl' : s.L.length ≤ 600000 := by rw [← h6, List.length_map] at hl; exact hl
  have := end_c s W.heap.size q w h1.sg (h1.ok.px hl') (by omega)
  rw [show s.end_ = endN base N by rw [← h6, endN_told, ← h5]; rfl] at this
  exact this
theorem so_size (W w : World) (p q : Nat) (n : ByteArray) (base : Int) (N : List BR) (safe : Nat) (room : Int) (h : So W p q n base N safe room w) (hl : N.length ≤ 600000) :
    Calls Tryz.prog 16 #[sp q] w (Good w (.int .i64 (lenN N : Int))) := by
  obtain ⟨a, s, h1, h2, h3, h4, h5, h6⟩ := h
  have hl' : s.L.length ≤ 600000 := by rw [← h6, List.length_map] at hl; exact hl
  have := size_c s W.heap.size q w h1.sg (h1.ok.px hl') (by omega)
  rw [show s.size = (lenN N : Int) by rw [← h6, lenN_told, h1.ok.size]] at this
  exact this
theorem so_used (W w : World) (p q : Nat) (n : ByteArray) (base : Int) (N : List BR) (safe : Nat) (room : Int) (h : So W p q n base N safe room w) :
    Calls Tryz.prog 26 #[Dk.dp p] w (Good w (.int .i64 (lenN N : Int))) := by
  obtain ⟨a, s, h1, h2, h3, h4, h5, h6⟩ := h
  have := Dk.used_do p a _ w h1.dk.1
  rw [h2.tot, lenN_bytes] at this
  refine this.mono ?_
  rintro e w' ⟨rfl, rfl⟩
  exact ⟨rfl, Below.refl _ _⟩
theorem so_read (W w : World) (p q : Nat) (n : ByteArray) (base : Int) (N : List BR) (safe : Nat) (room : Int) (h : So W p q n base N safe room w) (hl : N.length ≤ 600000) (from_ most : Int) :
    Calls Tryz.prog 21 #[sp q, .int .i64 from_, .int .i64 most] w (GotRd w (readN from_ most N)) := by
  obtain ⟨a, s, h1, h2, h3, h4, h5, h6⟩ := h
  have hl' : s.L.length ≤ 600000 := by rw [← h6, List.length_map] at hl; exact hl
  have := sread_c W w p q a s from_ most h1 hl'
  rw [h6] at this
  exact this
theorem so_sync (W w : World) (p q : Nat) (n : ByteArray) (base : Int) (N : List BR) (safe : Nat) (room : Int) (h : So W p q n base N safe room w) :
    Calls Tryz.prog 20 #[sp q] w (fun e w' => e = .returned (.int .i64 0) ∧ So W p q n base N (lenN N) room w') := by
  obtain ⟨a, s, h1, h2, h3, h4, h5, h6⟩ := h
  refine (sync_c W w p q a s h1).mono ?_
  obtain ⟨o1, o2, o3⟩ := h2.syn
  rw [lenN_bytes] at o1
  rintro e w' ⟨rfl, s', g1, g2, g3, _⟩
  have e0 : syE a s = 0 := by
    unfold syE
    rw [h4]
    rcases o3 with e | e
    · rw [e]; rfl
    · rw [e]; rfl
  rw [e0]
  rw [h4] at g1
  refine ⟨rfl, _, s', g1, o1, by rw [o2, h3], by rw [g3.1, h4], by rw [g3.2.1, h5], by rw [g2, h6]⟩
/-- A batch that may be and comes behind the others, with room for it. -/
theorem so_append (W w : World) (p q : Nat) (n : ByteArray) (base : Int) (N : List BR) (safe : Nat) (room : Int) (h : So W p q n base N safe room w) (hT : Tab W) (hl : N.length ≤ 600000) (b : BN) (R : List RX) (A : Option Addr) (c : Nat)
    (hin : RsIn w A R) (hb : batB b R = true) (hc : endN base N ≤ b.base) (hr : ((lenN N + (encB b R).size : Nat) : Int) ≤ room) :
    Calls Tryz.prog 19 #[sp q, .agg (bnC b (.slice A R.length c))] w (fun e w' => e = .returned (.int .i64 0) ∧ So W p q n base (N ++ [(b, R.map (·.1))]) safe room w') := by
  obtain ⟨a, s, h1, h2, h3, h4, h5, h6⟩ := h
  have hl' : s.L.length ≤ 600000 := by rw [← h6, List.length_map] at hl; exact hl
  have hend : s.end_ = endN base N := by rw [← h6, endN_told, ← h5]; rfl
  have hnb : Dk.nameB n = true := by rw [← h4]; exact h1.ok.name
  obtain ⟨a1, a2⟩ := h2.app (s := encB b R) hnb
  have hno : ¬ a.room - ((bytesN N).length : Int) < ((encB b R).size : Int) := by rw [h3, lenN_bytes]; omega
  rw [if_neg hno] at a1
  obtain ⟨o1, o2⟩ := a2 hno
  have e0 : apE a s b R = 0 := by unfold apE; rw [if_pos hb, if_neg (by omega), h4]; exact a1
  refine (append_c W w p q a s b R A c h1 hT hl' (Nat.le_trans h2.len (by decide)) hin (Nat.le_trans (bat_recs hb).1 (by decide))).mono ?_
  rintro e w' ⟨rfl, s', g1, g2, g3, _⟩
  have e1 : apA a s b R = Dk.appA a n (encB b R) := by unfold apA; rw [if_pos e0, h4]
  have e2 : apN a s b R = N ++ [(b, R.map (·.1))] := by unfold apN; rw [if_pos e0, h6]
  rw [e0]
  rw [e1] at g1
  rw [e2] at g2
  have hbs : bytesN N ++ (encB b R).data.toList = bytesN (N ++ [(b, R.map (·.1))]) := by
    rw [bytesN_app]
    congr 1
    show _ = (encB b (toRX (R.map (·.1)))).data.toList ++ []
    rw [List.append_nil, encB_congr b (toRX_map _)]
  rw [hbs] at o1
  exact ⟨rfl, _, s', g1, o1, by rw [o2, h3], by rw [g3.1, h4], by rw [g3.2.1, h5], g2⟩
/-- A batch that may not be, or begins ahead of the others' end. -/
theorem so_append_no (W w : World) (p q : Nat) (n : ByteArray) (base : Int) (N : List BR) (safe : Nat) (room : Int) (h : So W p q n base N safe room w) (hT : Tab W) (hl : N.length ≤ 600000) (b : BN) (R : List RX) (A : Option Addr) (c : Nat)
    (hin : RsIn w A R) (hR : R.length ≤ 140737488351232) (hno : batB b R = false ∨ b.base < endN base N) :
    Calls Tryz.prog 19 #[sp q, .agg (bnC b (.slice A R.length c))] w (fun e w' => e = .returned (.int .i64 1) ∧ So W p q n base N safe room w') := by
  obtain ⟨a, s, h1, h2, h3, h4, h5, h6⟩ := h
  have hl' : s.L.length ≤ 600000 := by rw [← h6, List.length_map] at hl; exact hl
  have hend : s.end_ = endN base N := by rw [← h6, endN_told, ← h5]; rfl
  have e0 : apE a s b R = 1 := by
    unfold apE
    cases hb : batB b R with
    | false => rfl
    | true =>
      rcases hno with h | h
      · rw [hb] at h; cases h
      · rw [if_pos rfl, if_pos (by omega)]
  refine (append_c W w p q a s b R A c h1 hT hl' (Nat.le_trans h2.len (by decide)) hin hR).mono ?_
  rintro e w' ⟨rfl, s', g1, g2, g3, _⟩
  have e1 : apA a s b R = a := by unfold apA; rw [e0]; rfl
  have e2 : apN a s b R = N := by unfold apN; rw [e0]; exact h6
  rw [e0]
  rw [e1] at g1
  rw [e2] at g2
  exact ⟨rfl, _, s', g1, h2, h3, by rw [g3.1, h4], by rw [g3.2.1, h5], g2⟩
/-- A crash. -/
theorem so_crash (W w : World) (p : Nat) (n : ByteArray) (bs : List UInt8) (safe : Nat) (room : Int) (S : Nat → Prop) (h : Dn W p n bs safe room w) (hs : safe ≤ bs.length) (ad : Option Addr) (c : Nat) (keep : List Int) (hkl : keep.length ≤ 9223372036854775807)
    (hS : ∀ k, AtS W w k → ¬ S k) (hk : Dk.KeepIn w (fun k => ¬ S k) ad c keep) :
    Calls Tryz.prog 23 #[Dk.dp p, .slice ad keep.length c] w (fun e w' => (∃ v, e = .returned (.int .i64 v)) ∧ ∃ m, safe ≤ m ∧ m ≤ bs.length ∧ Dn W p n (bs.take m) m room w' ∧ (bs.length ≠ safe → m = safe + Dk.keptOf keep 0 (bs.length - safe))) := by
  obtain ⟨a, h1, h2, h3⟩ := h
  have hi := at_kind h1
  refine (Dk.at_crash (S := AtS W w) ad c keep h1 hi (fun k hk => hk.1) (Nat.le_trans h2.len (by decide)) hkl ⟨hk.1, fun hp => ?_⟩).mono ?_
  · obtain ⟨b, off, q1, q2, q3, q4⟩ := hk.2 hp
    exact ⟨b, off, q1, q2, fun hf => q3 (hS b hf), q4⟩
  · rintro e w' ⟨rfl, h'⟩
    obtain ⟨m, m1, m2, m3, m4, m5⟩ := h2.crash keep hs
    exact ⟨⟨_, rfl⟩, m, m1, m2, ⟨_, h', m3, by rw [m4, h3]⟩, m5⟩
theorem bytes_take (N : List BR) (j : Nat) : (bytesN N).take (lenN (N.take j)) = bytesN (N.take j) := by
  have h : bytesN N = bytesN (N.take j) ++ bytesN (N.drop j) := by rw [← bytesN_app, List.take_append_drop]
  rw [h, List.take_left' (lenN_bytes _)]
/-- Opening a file that has the first bytes of batches. -/
theorem so_open (W w : World) (p : Nat) (n : ByteArray) (base every : Int) (N : List BR) (m safe : Nat) (room : Int) (h : Dn W p n ((bytesN N).take m) safe room w) (hm : m ≤ lenN N) (hg : ∀ x ∈ N, goodR x) (hc : ChainN base N) (hT : Tab W) (hok : OpOk n base every) (hsz : m ≤ 4194304) (hsf : safe ≤ m) :
    Calls Tryz.prog 9 #[Dk.dp p, .string n, .int .i64 base, .int .i64 every] w (fun e w' => ∃ q j, e = .returned (.tuple #[sp q, .int .i64 0]) ∧ j ≤ N.length ∧ lenN (N.take j) ≤ m ∧ (∀ i, i ≤ N.length → lenN (N.take i) ≤ m → i ≤ j) ∧ So W p q n base (N.take j) (min safe (lenN (N.take j))) room w') := by
  obtain ⟨a, h1, h2, h3⟩ := h
  have hbl : ((bytesN N).take m).length = m := by rw [List.length_take, lenN_bytes]; omega
  have hf := h2.read
  have hfs : (fileT a n).size = m := by rw [hf]; show (((bytesN N).take m).toArray).size = m; rw [List.size_toArray, hbl]
  refine (open_c W w p a n base every h1 hT hok h2.up (by omega)).mono ?_
  rintro e w' ⟨q, s, rfl, g1, g2, g3, g4, g5, _⟩
  obtain ⟨j, j1, j2, j3, j4⟩ := scan_part hg hm
  have hN : opN a n base = N.take j := by
    unfold opN
    rw [hf, j2]
    exact follow_chain (chain_take j hc)
  rw [hN] at g5
  refine ⟨q, j, rfl, j1, j3, j4, opA a n base, s, g1, ?_, ?_, g2, g3, g5⟩
  · unfold opA
    rw [hN, hfs]
    by_cases hlt : lenN (N.take j) < m
    · rw [if_pos hlt]
      have := (h2.cut (lenN (N.take j)) (by omega)).1
      rw [List.take_take, Nat.min_eq_left j3] at this
      rw [bytes_take] at this
      exact this
    · rw [if_neg hlt]
      have he : lenN (N.take j) = m := by omega
      rw [← he, bytes_take] at h2
      rw [Nat.min_eq_left (by omega)]
      exact h2
  · unfold opA
    rw [hN, hfs]
    by_cases hlt : lenN (N.take j) < m
    · rw [if_pos hlt, (h2.cut (lenN (N.take j)) (by omega)).2, h3]
    · rw [if_neg hlt, h3]
end Go.Proofs.YtjnphajkoopkgaaGreatDoor
/- segment: what each call does, by data, and what it leaves as it was. Plain wrappers. No condition but that there are not too many. -/
namespace Go.Proofs.YtjnphajkoopkgaaGreatDoor
open Go.RowKit
set_option linter.unusedVariables false
/-- The kinds of blocks that a segment's and a disk's calls may write. -/
def SegK (w : World) (k : Nat) : Prop := TyB SgT w k ∨ DkB w k
theorem seg_apart {w : World} {us : List TypeId} {k : Nat} (h : SegK w k) (h' : TyB us w k) (h1 : (SgT.all fun t => !us.contains t) = true) (h2 : (us.all fun t => ![68, 108, 5].contains t) = true) : False := by
  rcases h with h | h
  · exact h.apart h' h1
  · exact h.apart h' h2
theorem rowR_seg {w w' : World} {base : Nat} {v : Value} {L : List RX} (h : RowR w base v L) (ho : Off (SegK w) w w') : RowR w' base v L :=
  rowR_off h ho fun k hk hr => seg_apart hk hr (by decide) (by decide)
theorem box_seg {w w' : World} {g : Nat} {t : TypeId} {cs : Array Value} (h : Box w g t cs) (ho : Off (SegK w) w w') (h1 : (SgT.all fun u => ![t].contains u) = true) (h2 : ([t].all fun u => ![68, 108, 5].contains u) = true) : Box w' g t cs :=
  h.off ho fun hk => seg_apart hk ⟨cs, t, (0, 0), h, List.mem_singleton.2 rfl⟩ h1 h2
theorem at_seg {W w : World} {k : Nat} (h : AtS W w k) : SegK w k := .inr h.2
theorem sd_seg {W w : World} {p q : Nat} {a : Dk.Ab} {s : SG} (h : SD W p q a s w) {k : Nat} (hk : SdF W w s q k) : SegK w k := by
  rcases hk with hk | hk
  · exact .inl (sg_kind h.sg hk)
  · exact at_seg hk
/-- A store into a batch's box leaves a segment as it was. -/
theorem So.batch {W w w' : World} {p q g : Nat} {n : ByteArray} {base : Int} {N : List BR} {safe : Nat} {room : Int} {cs : Array Value} (h : So W p q n base N safe room w) (hg : Box w g 44 cs) (hw : W.heap.size ≤ g) (ho : Off (fun k => k = g) w w') : So W p q n base N safe room w' := by
  obtain ⟨a, s, h1, h2⟩ := h
  have hty : TyB [44] w g := ⟨cs, _, (0, 0), hg, List.mem_singleton.2 rfl⟩
  refine ⟨a, s, ⟨at_off h1.dk ho (fun k hk _ hd => ?_) (fun k hk => hk ▸ hw), h1.sg.off ho (fun k hk ht => ?_) (fun k ht hr => ?_), h1.hp, h1.ok⟩, h2⟩
  · subst hk
    exact hd.apart hty (by decide)
  · subst ht
    exact (sg_kind h1.sg hk).apart hty (by decide)
  · subst ht
    exact hr.apart hty (by decide)
theorem readS_mem {from_ most : Int} : ∀ {L : List BR} {n : Nat} {has : Bool}, (∀ q ∈ readS from_ most n has L, q ∈ L) ∧ (readS from_ most n has L).length ≤ L.length
  | [], _, _ => ⟨fun q h => h, Nat.le_refl _⟩
  | x :: L, n, has => by
    unfold readS
    split
    · obtain ⟨h1, h2⟩ := readS_mem (from_ := from_) (most := most) (L := L) (n := n) (has := has)
      exact ⟨fun q h => List.mem_cons_of_mem _ (h1 q h), Nat.le_succ_of_le h2⟩
    · split
      · exact ⟨fun q h => (by cases h), Nat.zero_le _⟩
      · obtain ⟨h1, h2⟩ := readS_mem (from_ := from_) (most := most) (L := L) (n := n + (encT x).size) (has := true)
        refine ⟨fun q h => ?_, Nat.succ_le_succ h2⟩
        rcases List.mem_cons.1 h with rfl | h
        · exact List.mem_cons_self
        · exact List.mem_cons_of_mem _ (h1 q h)
theorem good_rec {q : BR} (h : goodR q) : q.2.length ≤ 50 ∧ ∀ r ∈ q.2, okRec r = true := by
  obtain ⟨h1, h2⟩ := bat_recs h
  unfold toRX at h1 h2
  rw [List.length_map] at h1
  exact ⟨h1, fun r hr => h2 (r, none, 0) (List.mem_map.2 ⟨r, hr, rfl⟩)⟩
theorem good_told_in {M : List BX} {R : List BR} (hM : M.map BX.told = R) (hg : ∀ q ∈ R, goodR q) : (∀ x ∈ R, ∀ r ∈ x.2, okRec r = true) ∧ ∀ x ∈ M, x.2.1.length ≤ 1000 ∧ ∀ y ∈ x.2.1, y.1.heads.length ≤ 1000 := by
  refine ⟨fun x hx => (good_rec (hg x hx)).2, fun x hx => ?_⟩
  have hq : x.told ∈ R := hM ▸ List.mem_map.2 ⟨x, hx, rfl⟩
  obtain ⟨h1, h2⟩ := good_rec (hg _ hq)
  have h1' : (x.2.1.map (·.1)).length ≤ 50 := h1
  rw [List.length_map] at h1'
  refine ⟨by omega, fun y hy => ?_⟩
  have h3 := h2 y.1 (List.mem_map.2 ⟨y, hy, rfl⟩)
  have := ok_heads h3
  omega
end Go.Proofs.YtjnphajkoopkgaaGreatDoor
