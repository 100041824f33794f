/- clean: cleaning told from the end on: what stays stays when cleaned again; the last record of a key stays. Plain words. No condition. -/
import Derived.Test.YtdclkhbolmbnmaaDoorClIa
namespace Go.Proofs.YtdclkhbolmbnmaaDoor
open Go.RowKit Go.Maps Go.ChangeMaps Go.WideMaps
set_option linter.unusedVariables false
abbrev BR := BN × List Rec
def hasK (s : ByteArray) (R : List Rec) : Bool := R.any fun r => !r.bare && decide (r.key = s)
def recsN (N : List BR) : List Rec := N.flatMap (·.2)
def goes (before : Int) (rest : List Rec) (r : Rec) : Bool := !r.bare && (hasK r.key rest || (r.gone && decide (r.time < before)))
def keepS (before : Int) (more : List Rec) : List Rec → List Rec
  | [] => []
  | r :: l => if goes before (l ++ more) r then keepS before more l else r :: keepS before more l
def hasP (p : Int) (N : List BR) : Bool := N.any fun x => decide (x.1.prod = p)
def clnO (before : Int) (x : BR) (N : List BR) : List BR := if (decide (0 < (keepS before (recsN N) x.2).length) || (decide (0 ≤ x.1.prod) && !hasP x.1.prod N)) then [(x.1, keepS before (recsN N) x.2)] else []
def clnS (upto before : Int) : List BR → List BR
  | [] => []
  | x :: N => (if upto < x.1.base + x.1.span then [x] else clnO before x N) ++ clnS upto before N
theorem hasK_iff {s : ByteArray} {R : List Rec} : hasK s R = true ↔ ∃ r ∈ R, r.bare = false ∧ r.key = s := by
  unfold hasK
  rw [List.any_eq_true]
  constructor
  · rintro ⟨r, hr, h⟩
    simp at h
    exact ⟨r, hr, h.1, h.2⟩
  · rintro ⟨r, hr, h1, h2⟩
    exact ⟨r, hr, by simp [h1, h2]⟩
theorem hasP_iff {p : Int} {N : List BR} : hasP p N = true ↔ ∃ x ∈ N, x.1.prod = p := by
  unfold hasP
  rw [List.any_eq_true]
  constructor
  · rintro ⟨r, hr, h⟩
    exact ⟨r, hr, by simpa using h⟩
  · rintro ⟨r, hr, h⟩
    exact ⟨r, hr, by simpa using h⟩
theorem goes_mono {before : Int} {a b : List Rec} {r : Rec} (hs : ∀ x ∈ b, x ∈ a) (h : goes before a r = false) : goes before b r = false := by
  cases hb : goes before b r with
  | false => rfl
  | true =>
    exfalso
    unfold goes at h hb
    have hk : hasK r.key b = true → hasK r.key a = true := fun hk => by
      obtain ⟨y, hy, h1, h2⟩ := hasK_iff.1 hk
      exact hasK_iff.2 ⟨y, hs y hy, h1, h2⟩
    cases hk1 : hasK r.key b with
    | true => rw [hk hk1] at h; rw [hk1] at hb; simp at h hb; rw [h] at hb; cases hb
    | false =>
      rw [hk1] at hb
      simp at h hb
      obtain ⟨h1, h2, h3⟩ := hb
      have := (h h1).2 h2
      omega
theorem keepS_sub {before : Int} {more : List Rec} : ∀ R : List Rec, (keepS before more R).Sublist R
  | [] => .slnil
  | r :: l => by
    unfold keepS
    split
    · exact (keepS_sub l).cons r
    · exact (keepS_sub l).cons_cons r
theorem keepS_idem {before : Int} {more more' : List Rec} (hm : ∀ x ∈ more', x ∈ more) : ∀ R : List Rec, keepS before more' (keepS before more R) = keepS before more R
  | [] => rfl
  | r :: l => by
    have ih := keepS_idem (before := before) hm l
    rw [keepS]
    split
    · exact ih
    · rename_i h
      have h' : goes before (l ++ more) r = false := by cases hg : goes before (l ++ more) r with | true => exact absurd hg h | false => rfl
      rw [keepS, ih]
      rw [goes_mono (a := l ++ more) (fun x hx => ?_) h', if_neg (by decide)]
      rcases List.mem_append.1 hx with hx | hx
      · exact List.mem_append.2 (.inl ((keepS_sub l).subset hx))
      · exact List.mem_append.2 (.inr (hm x hx))
theorem clnO_sub {before : Int} {x : BR} {N : List BR} : (recsN (clnO before x N)).Sublist x.2 := by
  unfold clnO
  split
  · show (List.flatMap _ _).Sublist _
    simp
    exact keepS_sub _
  · exact List.nil_sublist _
theorem recsN_app (M N : List BR) : recsN (M ++ N) = recsN M ++ recsN N := by unfold recsN; rw [List.flatMap_append]
theorem recsN_cons (x : BR) (N : List BR) : recsN (x :: N) = x.2 ++ recsN N := by unfold recsN; rw [List.flatMap_cons]
theorem recsN_sub {upto before : Int} : ∀ N : List BR, (recsN (clnS upto before N)).Sublist (recsN N)
  | [] => .slnil
  | x :: N => by
    unfold clnS
    rw [recsN_app, recsN_cons]
    refine List.Sublist.append ?_ (recsN_sub N)
    split
    · show (List.flatMap _ _).Sublist _
      simp
    · exact clnO_sub
theorem prods_sub {upto before : Int} : ∀ N : List BR, ((clnS upto before N).map (·.1)).Sublist (N.map (·.1))
  | [] => .slnil
  | x :: N => by
    unfold clnS
    rw [List.map_append, List.map_cons]
    change List.Sublist _ ([x.1] ++ N.map (·.1))
    refine List.Sublist.append ?_ (prods_sub N)
    split
    · simp
    · unfold clnO
      split
      · simp
      · simp
theorem hasP_mono {upto before p : Int} {N : List BR} (h : hasP p N = false) : hasP p (clnS upto before N) = false := by
  cases hb : hasP p (clnS upto before N) with
  | false => rfl
  | true =>
    obtain ⟨x, hx, he⟩ := hasP_iff.1 hb
    obtain ⟨y, hy, e⟩ := List.mem_map.1 ((prods_sub N).subset (List.mem_map_of_mem (f := (·.1)) hx))
    rw [hasP_iff.2 ⟨y, hy, by rw [e]; exact he⟩] at h
    cases h
/-- Cleaned again it is the same. -/
theorem clnS_idem (upto before : Int) : ∀ N : List BR, clnS upto before (clnS upto before N) = clnS upto before N
  | [] => rfl
  | x :: N => by
    have ih := clnS_idem upto before N
    by_cases hu : upto < x.1.base + x.1.span
    · have e : clnS upto before (x :: N) = x :: clnS upto before N := by rw [clnS, if_pos hu]; rfl
      rw [e, clnS, if_pos hu, ih]
      rfl
    · by_cases hc : (decide (0 < (keepS before (recsN N) x.2).length) || (decide (0 ≤ x.1.prod) && !hasP x.1.prod N)) = true
      · have e : clnS upto before (x :: N) = (x.1, keepS before (recsN N) x.2) :: clnS upto before N := by rw [clnS, if_neg hu, clnO, if_pos hc]; rfl
        rw [e, clnS, if_neg hu, ih, clnO]
        have e2 : keepS before (recsN (clnS upto before N)) (keepS before (recsN N) x.2) = keepS before (recsN N) x.2 := keepS_idem (fun y hy => (recsN_sub N).subset hy) x.2
        simp only
        rw [e2, if_pos]
        · rfl
        · rw [Bool.or_eq_true] at hc ⊢
          rcases hc with hc | hc
          · exact .inl hc
          · rw [Bool.and_eq_true] at hc
            refine .inr ?_
            rw [Bool.and_eq_true]
            refine ⟨hc.1, ?_⟩
            have h2 : hasP x.1.prod N = false := by simpa using hc.2
            rw [hasP_mono h2]
            rfl
      · have e : clnS upto before (x :: N) = clnS upto before N := by rw [clnS, if_neg hu, clnO, if_neg hc]; rfl
        rw [e, ih]
/-- Where a record stands. -/
def placesN (N : List BR) : List (Int × Rec) := N.flatMap fun x => x.2.map fun r => (x.1.base + r.place, r)
theorem placesN_cons (x : BR) (N : List BR) : placesN (x :: N) = (x.2.map fun r => (x.1.base + r.place, r)) ++ placesN N := by unfold placesN; rw [List.flatMap_cons]
theorem placesN_app (M N : List BR) : placesN (M ++ N) = placesN M ++ placesN N := by unfold placesN; rw [List.flatMap_append]
theorem places_sub {upto before : Int} : ∀ N : List BR, (placesN (clnS upto before N)).Sublist (placesN N)
  | [] => .slnil
  | x :: N => by
    unfold clnS
    rw [placesN_app, placesN_cons]
    refine List.Sublist.append ?_ (places_sub N)
    split
    · rw [show [x] = x :: [] from rfl, placesN_cons, show placesN [] = [] from rfl, List.append_nil]
      exact List.Sublist.refl _
    · unfold clnO
      split
      · rw [show ∀ y : BR, [y] = y :: [] from fun _ => rfl, placesN_cons, show placesN [] = [] from rfl, List.append_nil]
        exact (keepS_sub x.2).map _
      · exact List.nil_sublist _
/-- The first one that stands there. -/
def findN (N : List BR) (at_ : Int) : Option (Int × Rec) := (placesN N).find? fun p => decide (p.1 = at_)
def RiseN (N : List BR) : Prop := (placesN N).Pairwise fun a b => a.1 < b.1
theorem find_rise {l : List (Int × Rec)} (h : l.Pairwise fun a b => a.1 < b.1) {p : Int × Rec} (hp : p ∈ l) : (l.find? fun q => decide (q.1 = p.1)) = some p := by
  induction l with
  | nil => cases hp
  | cons q l ih =>
    rw [List.pairwise_cons] at h
    rcases List.mem_cons.1 hp with rfl | hp
    · rw [List.find?_cons_of_pos (by simp)]
    · have := h.1 p hp
      rw [List.find?_cons_of_neg (by simp; omega)]
      exact ih h.2 hp
theorem findN_in {N : List BR} (h : RiseN N) {p : Int × Rec} (hp : p ∈ placesN N) : findN N p.1 = some p := find_rise h hp
/-- What is there behind cleaning stood there. -/
theorem findN_was {upto before : Int} {N : List BR} (h : RiseN N) {p : Int × Rec} (hp : p ∈ placesN (clnS upto before N)) : findN N p.1 = some p := findN_in h ((places_sub N).subset hp)
theorem rise_clean {upto before : Int} {N : List BR} (h : RiseN N) : RiseN (clnS upto before N) := h.sublist (places_sub N)
theorem keepS_mem {before : Int} {more : List Rec} {r : Rec} (hg : r.gone = false) : ∀ {R1 R2 : List Rec}, (r.bare = true ∨ hasK r.key (R2 ++ more) = false) → r ∈ keepS before more (R1 ++ r :: R2)
  | [], R2, h => by
    show r ∈ keepS before more (r :: R2)
    unfold keepS
    have : goes before (R2 ++ more) r = false := by
      unfold goes
      rw [hg]
      rcases h with h | h
      · rw [h]; rfl
      · rw [h]; simp
    rw [this, if_neg (by decide)]
    exact List.mem_cons_self ..
  | q :: R1, R2, h => by
    have ih := keepS_mem (before := before) hg (R1 := R1) h
    show r ∈ keepS before more (q :: (R1 ++ r :: R2))
    unfold keepS
    split
    · exact ih
    · exact List.mem_cons_of_mem _ ih
/-- A record that none of its key comes after, and that is not gone, stays. -/
theorem stays {upto before : Int} {b : BN} {r : Rec} (hg : r.gone = false) : ∀ {A B : List BR} {R1 R2 : List Rec}, (r.bare = true ∨ hasK r.key (R2 ++ recsN B) = false) → (b.base + r.place, r) ∈ placesN (clnS upto before (A ++ (b, R1 ++ r :: R2) :: B))
  | [], B, R1, R2, h => by
    show _ ∈ placesN (clnS upto before ((b, R1 ++ r :: R2) :: B))
    unfold clnS
    rw [placesN_app]
    refine List.mem_append.2 (.inl ?_)
    split
    · rw [show ∀ y : BR, [y] = y :: [] from fun _ => rfl, placesN_cons, show placesN [] = [] from rfl, List.append_nil]
      exact List.mem_map.2 ⟨r, by simp, rfl⟩
    · have hk := keepS_mem (before := before) (more := recsN B) hg (R1 := R1) h
      unfold clnO
      simp only
      rw [if_pos (by rw [decide_eq_true (List.length_pos_of_mem hk)]; rfl)]
      rw [show ∀ y : BR, [y] = y :: [] from fun _ => rfl, placesN_cons, show placesN [] = [] from rfl, List.append_nil]
      exact List.mem_map.2 ⟨r, hk, rfl⟩
  | a :: A, B, R1, R2, h => by
    show _ ∈ placesN (clnS upto before (a :: (A ++ (b, R1 ++ r :: R2) :: B)))
    unfold clnS
    rw [placesN_app]
    exact List.mem_append.2 (.inr (stays hg h))
/-- The program's cleaning is that. -/
theorem keepL_keepS {f : Nat → Rec → Bool} {before : Int} {more : List Rec} : ∀ {j : Nat} {R : List Rec}, (∀ m r, R[m]? = some r → f (j + m) r = goes before (R.drop (m + 1) ++ more) r) → keepL f j R = keepS before more R
  | j, [], _ => rfl
  | j, r :: l, h => by
    have ih := keepL_keepS (f := f) (before := before) (more := more) (j := j + 1) (R := l) (fun m q hq => by
      have := h (m + 1) q (by simpa using hq)
      rw [show j + 1 + m = j + (m + 1) by omega, this]
      rfl)
    have h0 := h 0 r rfl
    rw [Nat.add_zero] at h0
    rw [keepS, ← ih]
    show (if f j r then _ else _) = _
    rw [h0]
    rfl
theorem recsN_mem {N : List BR} {r : Rec} : r ∈ recsN N ↔ ∃ x ∈ N, r ∈ x.2 := by unfold recsN; rw [List.mem_flatMap]
theorem later_hasK {L : List BX} {k j : Nat} {x : BX} {s : ByteArray} (hx : L[k]? = some x) : LaterP L k j s ↔ hasK s ((x.2.1.map (·.1)).drop (j + 1) ++ recsN ((L.map BX.told).drop (k + 1))) = true := by
  rw [hasK_iff]
  constructor
  · rintro ⟨n, m, x', y', h1, h2, h3, h4, h5⟩
    refine ⟨y'.1, ?_, h3, h4⟩
    rw [List.mem_append]
    rcases h5 with h5 | ⟨h5, h6⟩
    · refine .inr (recsN_mem.2 ⟨x'.told, ?_, List.mem_map_of_mem (List.mem_of_getElem? h2)⟩)
      refine List.mem_iff_getElem?.2 ⟨n - (k + 1), ?_⟩
      rw [List.getElem?_drop, show k + 1 + (n - (k + 1)) = n by omega, List.getElem?_map, h1]
      rfl
    · subst h5
      rw [hx] at h1
      injection h1 with h1
      subst h1
      refine .inl (List.mem_iff_getElem?.2 ⟨m - (j + 1), ?_⟩)
      rw [List.getElem?_drop, show j + 1 + (m - (j + 1)) = m by omega, List.getElem?_map, h2]
      rfl
  · rintro ⟨r, hr, h3, h4⟩
    rcases List.mem_append.1 hr with hr | hr
    · obtain ⟨m, hm⟩ := List.mem_iff_getElem?.1 hr
      rw [List.getElem?_drop, List.getElem?_map] at hm
      cases hy : x.2.1[j + 1 + m]? with
      | none => rw [hy] at hm; cases hm
      | some y =>
        rw [hy] at hm
        have e : y.1 = r := by injection hm
        subst e
        exact ⟨k, j + 1 + m, x, y, hx, hy, h3, h4, .inr ⟨rfl, by omega⟩⟩
    · obtain ⟨z, hz, hrz⟩ := recsN_mem.1 hr
      obtain ⟨n, hn⟩ := List.mem_iff_getElem?.1 hz
      rw [List.getElem?_drop, List.getElem?_map] at hn
      cases hq : L[k + 1 + n]? with
      | none => rw [hq] at hn; cases hn
      | some q =>
        rw [hq] at hn
        have e : q.told = z := by injection hn
        subst e
        obtain ⟨y, hy, rfl⟩ := List.mem_map.1 (show r ∈ q.2.1.map (·.1) from hrz)
        obtain ⟨m, hm⟩ := List.mem_iff_getElem?.1 hy
        exact ⟨k + 1 + n, m, q, y, hq, hm, h3, h4, .inl (by omega)⟩
theorem last_hasP {L : List BX} {k : Nat} {p : Int} : LastP L k p ↔ (decide (0 ≤ p) && !hasP p ((L.map BX.told).drop (k + 1))) = true := by
  rw [Bool.and_eq_true, decide_eq_true_iff]
  unfold LastP
  refine and_congr_right fun h0 => ?_
  constructor
  · intro h
    cases hb : hasP p ((L.map BX.told).drop (k + 1)) with
    | false => rfl
    | true =>
      obtain ⟨z, hz, he⟩ := hasP_iff.1 hb
      obtain ⟨n, hn⟩ := List.mem_iff_getElem?.1 hz
      rw [List.getElem?_drop, List.getElem?_map] at hn
      cases hq : L[k + 1 + n]? with
      | none => rw [hq] at hn; cases hn
      | some q =>
        rw [hq] at hn
        have e : q.told = z := by injection hn
        subst e
        exact absurd he (h (k + 1 + n) q (by omega) hq)
  · intro h n z hn hz he
    have h' : hasP p ((L.map BX.told).drop (k + 1)) = false := by simpa using h
    have : hasP p ((L.map BX.told).drop (k + 1)) = true := hasP_iff.2 ⟨z.told, List.mem_iff_getElem?.2 ⟨n - (k + 1), by rw [List.getElem?_drop, show k + 1 + (n - (k + 1)) = n by omega, List.getElem?_map, hz]; rfl⟩, he⟩
    rw [this] at h'
    cases h'
theorem drop_goes {L : List BX} {k j : Nat} {x : BX} {r : Rec} {before : Int} (hx : L[k]? = some x) (hr : (x.2.1.map (·.1))[j]? = some r) :
    dropQ (lastF (L.map bxR)) k before j r = goes before ((x.2.1.map (·.1)).drop (j + 1) ++ recsN ((L.map BX.told).drop (k + 1))) r := by
  rw [List.getElem?_map] at hr
  cases hy : x.2.1[j]? with
  | none => rw [hy] at hr; cases hr
  | some y =>
    rw [hy] at hr
    have e : y.1 = r := by injection hr
    subst e
    cases hb : y.1.bare with
    | true => rw [drop_bare hb]; unfold goes; rw [hb]; rfl
    | false =>
      rw [drop_doc hx hy hb (b := hasK y.1.key ((x.2.1.map (·.1)).drop (j + 1) ++ recsN ((L.map BX.told).drop (k + 1)))) (later_hasK hx).symm]
      unfold goes
      rw [hb]
      rfl
theorem clnL_clnS_at {L : List BX} {upto before : Int} : ∀ (n k : Nat), L.length = k + n → clnL (lastF (L.map bxR)) (prdF 0 (L.map (·.1)) []) upto before k ((L.map BX.told).drop k) = clnS upto before ((L.map BX.told).drop k)
  | 0, k, h => by rw [List.drop_of_length_le (by rw [List.length_map]; omega)]; rfl
  | n + 1, k, h => by
    have ih := clnL_clnS_at (L := L) (upto := upto) (before := before) n (k + 1) (by omega)
    have hk : k < L.length := by omega
    obtain ⟨x, hx⟩ : ∃ x, L[k]? = some x := ⟨_, List.getElem?_eq_getElem hk⟩
    have hd : (L.map BX.told).drop k = x.told :: (L.map BX.told).drop (k + 1) := by
      rw [List.drop_eq_getElem_cons (by rw [List.length_map]; exact hk), List.getElem_map, (List.getElem?_eq_some_iff.1 hx).2]
    rw [hd, clnL, clnS, ih]
    congr 1
    unfold clnB clnO
    have hkeep : keepL (dropQ (lastF (L.map bxR)) k before) 0 x.told.2 = keepS before (recsN ((L.map BX.told).drop (k + 1))) x.told.2 :=
      keepL_keepS (fun m r hr => by rw [Nat.zero_add]; exact drop_goes hx hr)
    rw [hkeep]
    have hp : (decide (0 ≤ x.1.prod) && (Pr.atH (Pr.ofId (prdF 0 (L.map (·.1)) []) x.1.prod) == (k : Int))) = (decide (0 ≤ x.1.prod) && !hasP x.1.prod ((L.map BX.told).drop (k + 1))) := by
      rw [Bool.eq_iff_iff, ← last_hasP, ← prod_last hx, Bool.and_eq_true, decide_eq_true_iff, beq_iff_eq]
    show (if upto < x.1.base + x.1.span then _ else if (_ || (decide (0 ≤ x.1.prod) && (Pr.atH (Pr.ofId (prdF 0 (L.map (·.1)) []) x.1.prod) == (k : Int)))) = true then _ else _) = _
    rw [hp]
    rfl
theorem clnL_clnS {L : List BX} {upto before : Int} : clnL (lastF (L.map bxR)) (prdF 0 (L.map (·.1)) []) upto before 0 (L.map BX.told) = clnS upto before (L.map BX.told) := clnL_clnS_at L.length 0 (by omega)
/-- The last record of a key: none of that key comes after it. -/
theorem last_split {L : List BX} {s : ByteArray} {e : TE} (h : ofN (lastF (L.map bxR)) s.data.toList = some e) :
    ∃ (i j : Nat) (x : BX) (y : RX), e = ⟨s.data.toList, i, j⟩ ∧ L[i]? = some x ∧ x.2.1[j]? = some y ∧ y.1.bare = false ∧ y.1.key = s ∧ hasK s ((x.2.1.map (·.1)).drop (j + 1) ++ recsN ((L.map BX.told).drop (i + 1))) = false := by
  have h' := h
  rw [ofN_last] at h'
  obtain ⟨hm, hn⟩ := lastN_mem h'
  obtain ⟨n, m, R, r, g1, g2, g3, g4, g5, g6⟩ := seqL_at hm
  rw [Nat.zero_add] at g1
  rw [List.getElem?_map] at g3
  cases hx : L[n]? with
  | none => rw [hx] at g3; cases g3
  | some x =>
    rw [hx] at g3
    have e1 : bxR x = R := by injection g3
    subst e1
    have g4' : (x.2.1.map (·.1))[m]? = some r := g4
    rw [List.getElem?_map] at g4'
    cases hy : x.2.1[m]? with
    | none => rw [hy] at g4'; cases g4'
    | some y =>
      rw [hy] at g4'
      have e2 : y.1 = r := by injection g4'
      subst e2
      have hk : y.1.key = s := key_eq.1 (g6.symm.trans hn)
      have he : e = ⟨s.data.toList, n, m⟩ := by
        obtain ⟨a, b, c⟩ := e
        simp only at g1 g2 hn
        rw [g1, g2, hn]
      refine ⟨n, m, x, y, he, hx, hy, g5, hk, ?_⟩
      have hkb : keyB y.1 = s.data.toList := by unfold keyB; rw [hk]
      have hpl := (place_later hx hy g5).1 (by rw [hkb, h, he]; show ((n : Int) == (n : Int) && (m : Int) == (m : Int)) = true; simp)
      rw [hk, later_hasK hx] at hpl
      cases hb : hasK s ((x.2.1.map (·.1)).drop (m + 1) ++ recsN ((L.map BX.told).drop (n + 1))) with
      | false => rfl
      | true => exact absurd hb hpl
theorem split_at {α : Type} {l : List α} {i : Nat} {x : α} (h : l[i]? = some x) : l = l.take i ++ x :: l.drop (i + 1) := by
  obtain ⟨hi, he⟩ := List.getElem?_eq_some_iff.1 h
  rw [← he, ← List.drop_eq_getElem_cons hi, List.take_append_drop]
/-- The last record of a key, if it is not gone, is there behind cleaning, where it stood. -/
theorem last_stays {L : List BX} {upto before : Int} {i j : Nat} {x : BX} {y : RX} (hx : L[i]? = some x) (hy : x.2.1[j]? = some y) (hk : hasK y.1.key ((x.2.1.map (·.1)).drop (j + 1) ++ recsN ((L.map BX.told).drop (i + 1))) = false) (hg : y.1.gone = false) :
    (x.1.base + y.1.place, y.1) ∈ placesN (clnS upto before (L.map BX.told)) := by
  have h1 : (L.map BX.told)[i]? = some x.told := by rw [List.getElem?_map, hx]; rfl
  have h2 : (x.2.1.map (·.1))[j]? = some y.1 := by rw [List.getElem?_map, hy]; rfl
  have h3 := stays (upto := upto) (before := before) (b := x.1) hg (A := (L.map BX.told).take i) (B := (L.map BX.told).drop (i + 1)) (R1 := (x.2.1.map (·.1)).take j) (R2 := (x.2.1.map (·.1)).drop (j + 1)) (.inr hk)
  rw [← split_at h2] at h3
  rw [split_at h1]
  exact h3
theorem in_places {L : List BX} {i j : Nat} {x : BX} {y : RX} (hx : L[i]? = some x) (hy : x.2.1[j]? = some y) : (x.1.base + y.1.place, y.1) ∈ placesN (L.map BX.told) := by
  refine List.mem_flatMap.2 ⟨x.told, List.mem_map_of_mem (List.mem_of_getElem? hx), ?_⟩
  exact List.mem_map.2 ⟨y.1, List.mem_map_of_mem (List.mem_of_getElem? hy), rfl⟩
end Go.Proofs.YtdclkhbolmbnmaaDoor
