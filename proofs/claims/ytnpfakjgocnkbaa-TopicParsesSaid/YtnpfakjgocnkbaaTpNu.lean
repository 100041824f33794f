/- topic: what its reader reads, as plain math. No condition. -/
import Derived.Test.YtnpfakjgocnkbaaTpG
import Derived.Test.YtnpfakjgocnkbaaRd
namespace Go.Proofs.Ytnpfakjgocnkbaa
open Go.RowKit
set_option linter.unusedVariables false
/-- An error of the form, if what was read is not so. -/
def demE (e : Int) (b : Bool) : Int := if e = 0 ∧ b = false then 3 else e
/-- The next number; the place, the error. -/
def nuT (s : ByteArray) (l m q e : Int) : Int × Int × Int :=
  if e = 0 then (if (getG s q).2.2 = 0 then (if witB (getG s q).1 l m = true then ((getG s q).1, (getG s q).2.1, 0) else (0, (getG s q).2.1, 3)) else (0, (getG s q).2.1, (getG s q).2.2)) else (0, q, e)
/-- The next name, above the one ahead. -/
def naT (s : ByteArray) (a : List UInt8) (q e : Int) : ByteArray × Int × Int :=
  if e = 0 then ((takeG s q 100).1, (takeG s q 100).2.1, if (takeG s q 100).2.2 = 0 ∧ bytesBefore a (takeG s q 100).1.data.toList = false then 3 else (takeG s q 100).2.2) else (⟨#[]⟩, q, e)
/-- What has been read: topics, the name ahead, the place, the error. -/
abbrev RS := List TE × ByteArray × Int × Int
def enT (s : ByteArray) (n q e : Int) : (Int × Int) × Int × Int :=
  (((nuT s 0 n q e).1, (nuT s 1 16 (nuT s 0 n q e).2.1 (nuT s 0 n q e).2.2).1), (nuT s 1 16 (nuT s 0 n q e).2.1 (nuT s 0 n q e).2.2).2)
def stT (s : ByteArray) (n : Int) (t : RS) : RS :=
  (putT ⟨(naT s t.2.1.data.toList t.2.2.1 t.2.2.2).1.data.toList, (enT s (n - 1) (naT s t.2.1.data.toList t.2.2.1 t.2.2.2).2.1 (naT s t.2.1.data.toList t.2.2.1 t.2.2.2).2.2).1.1, (enT s (n - 1) (naT s t.2.1.data.toList t.2.2.1 t.2.2.2).2.1 (naT s t.2.1.data.toList t.2.2.1 t.2.2.2).2.2).1.2⟩ t.1,
   (naT s t.2.1.data.toList t.2.2.1 t.2.2.2).1, (enT s (n - 1) (naT s t.2.1.data.toList t.2.2.1 t.2.2.2).2.1 (naT s t.2.1.data.toList t.2.2.1 t.2.2.2).2.2).2)
def itT (s : ByteArray) (n : Int) (t : RS) : Nat → RS
  | 0 => t
  | k + 1 => stT s n (itT s n t k)
/-- Have two the same id? -/
def twB (F : List TE) : Bool := !decide ((F.map (·.id)).Nodup)
/-- All that is read: the next id, the topics; the place, the error. -/
def tbT (s : ByteArray) : Int × RS :=
  ((nuT s 0 1073741824 0 0).1, itT s (nuT s 0 1073741824 0 0).1 ([], ⟨#[]⟩, (nuT s 0 20 (nuT s 0 1073741824 0 0).2.1 (nuT s 0 1073741824 0 0).2.2).2) (nuT s 0 20 (nuT s 0 1073741824 0 0).2.1 (nuT s 0 1073741824 0 0).2.2).1.toNat)
def paT (s : ByteArray) : Int := demE (tbT s).2.2.2.2 (decide ((tbT s).2.2.2.1 = (s.size : Int)) && !twB (tbT s).2.1)
theorem nuT_in (s : ByteArray) (l m q e : Int) : (l ≤ (nuT s l m q e).1 ∧ (nuT s l m q e).1 ≤ m ∧ (nuT s l m q e).2.2 = 0) ∨ ((nuT s l m q e).1 = 0 ∧ (nuT s l m q e).2.2 ≠ 0) := by
  unfold nuT
  split
  · split
    · split
      · rename_i h
        unfold witB at h
        simp only [Bool.and_eq_true, decide_eq_true_eq] at h
        exact .inl ⟨h.1, h.2, rfl⟩
      · exact .inr ⟨rfl, by show (3 : Int) ≠ 0; decide⟩
    · rename_i h
      exact .inr ⟨rfl, h⟩
  · rename_i h
    exact .inr ⟨rfl, h⟩
theorem nuT_err {s : ByteArray} {l m q e : Int} (h : e ≠ 0) : nuT s l m q e = (0, q, e) := by
  unfold nuT
  rw [if_neg h]
theorem naT_err {s : ByteArray} {a : List UInt8} {q e : Int} (h : e ≠ 0) : naT s a q e = (⟨#[]⟩, q, e) := by
  unfold naT
  rw [if_neg h]
theorem enT_err {s : ByteArray} {n q e : Int} (h : e ≠ 0) : enT s n q e = ((0, 0), q, e) := by
  unfold enT
  rw [nuT_err h]
  simp only
  rw [nuT_err h]
theorem enT_back {s : ByteArray} {n q e : Int} (h : (enT s n q e).2.2 = 0) : e = 0 := by
  by_cases he : e = 0
  · exact he
  · rw [enT_err he] at h; exact h
theorem stT_err {s : ByteArray} {n : Int} {t : RS} (h : t.2.2.2 ≠ 0) : (stT s n t).2.2 = t.2.2 := by
  unfold stT
  simp only
  rw [naT_err h]
  simp only
  rw [enT_err h]
theorem itT_err {s : ByteArray} {n : Int} {t : RS} (h : t.2.2.2 ≠ 0) : ∀ k, (itT s n t k).2.2 = t.2.2
  | 0 => rfl
  | k + 1 => by
    have ih := itT_err (s := s) (n := n) h k
    show (stT s n (itT s n t k)).2.2 = _
    rw [stT_err (by rw [ih]; exact h), ih]
theorem nuT_ok {s : ByteArray} {lo hi q e : Int} (h : (nuT s lo hi q e).2.2 = 0) : e = 0 ∧ Span s q (nuT s lo hi q e).2.1 (putL (nuT s lo hi q e).1) ∧ lo ≤ (nuT s lo hi q e).1 ∧ (nuT s lo hi q e).1 ≤ hi := by
  unfold nuT at *
  split at h
  · rename_i he
    rw [if_pos he]
    split at h
    · rename_i hg
      rw [if_pos hg]
      split at h
      · rename_i hw
        rw [if_pos hw]
        unfold witB at hw
        simp only [Bool.and_eq_true, decide_eq_true_eq] at hw
        exact ⟨he, (get_ok hg).1, hw.1, hw.2⟩
      · exact absurd (show (3 : Int) = 0 from h) (by decide)
    · rename_i hg
      exact absurd h hg
  · rename_i he
    exact absurd h he
theorem naT_ok {s : ByteArray} {a : List UInt8} {q e : Int} (h : (naT s a q e).2.2 = 0) : e = 0 ∧ Span s q (naT s a q e).2.1 (txt (naT s a q e).1) ∧ (naT s a q e).1.size ≤ 100 ∧ bytesBefore a (naT s a q e).1.data.toList = true := by
  unfold naT at *
  split at h
  · rename_i he
    rw [if_pos he]
    simp only at h ⊢
    split at h
    · exact absurd (show (3 : Int) = 0 from h) (by decide)
    · rename_i hg
      obtain ⟨h1, h2⟩ := take_ok h
      refine ⟨he, h1, by omega, ?_⟩
      cases hb : bytesBefore a (takeG s q 100).1.data.toList with
      | true => rfl
      | false => exact absurd ⟨h, hb⟩ hg
  · rename_i he
    exact absurd h he
theorem nuT_put {s : ByteArray} {q n lo hi : Int} {l : List UInt8} (h : Rest s q (putL n ++ l)) (h0 : lo ≤ n) (h1 : n ≤ hi) (hlo : -9223372036854775808 ≤ lo) (hhi : hi ≤ 9223372036854775807) :
    nuT s lo hi q 0 = (n, q + ((putL n).length : Int), 0) ∧ Rest s (q + ((putL n).length : Int)) l := by
  have hg := get_rest h (by omega) (by omega)
  refine ⟨?_, h.next⟩
  have hw : witB n lo hi = true := by unfold witB; rw [decide_eq_true h0, decide_eq_true h1]; rfl
  unfold nuT
  rw [if_pos rfl, hg]
  simp only
  rw [if_pos trivial, if_pos hw]
theorem naT_put {s : ByteArray} {q : Int} {t : ByteArray} {a l : List UInt8} (h : Rest s q (txt t ++ l)) (hm : t.size ≤ 100) (ha : bytesBefore a t.data.toList = true) :
    naT s a q 0 = (t, q + ((txt t).length : Int), 0) ∧ Rest s (q + ((txt t).length : Int)) l := by
  have hg := take_rest h (m := 100) (by omega) (by omega)
  refine ⟨?_, h.next⟩
  unfold naT
  rw [if_pos rfl, hg]
  simp only
  rw [if_neg (by rw [ha]; simp)]
/-- A topic as text, and a table. -/
def nmA (e : TE) : ByteArray := ⟨e.name.toArray⟩
def oneT (e : TE) : List UInt8 := txt (nmA e) ++ (putL e.id ++ putL e.parts)
def printT (t : TS) : List UInt8 := putL t.1 ++ (putL (t.2.length : Int) ++ t.2.flatMap oneT)
theorem nmA_list (e : TE) : (nmA e).data.toList = e.name := by unfold nmA; simp
theorem nmA_size (e : TE) : (nmA e).size = e.name.length := by
  show e.name.toArray.size = _
  simp
theorem putT_end {F : List TE} {x : TE} (h : ∀ g ∈ F, bytesBefore g.name x.name = true) : putT x F = F ++ [x] := by
  have hne : ∀ g ∈ F, g.name ≠ x.name := fun g hg e => by
    have := h g hg
    rw [e, Go.WideAt.bytes_irrefl] at this
    cases this
  have hf : minT F x.name = F := List.filter_eq_self.2 fun g hg => by have := hne g hg; simpa using this
  unfold putT
  rw [hf]
  clear hf
  induction F with
  | nil => rfl
  | cons g r ih =>
    have hg := h g (by simp)
    have hg2 : bytesBefore x.name g.name = false := by
      cases hb : bytesBefore x.name g.name with
      | false => rfl
      | true =>
        have := bytes_trans' hg hb
        rw [Go.WideAt.bytes_irrefl] at this
        cases this
    unfold insT
    rw [hg2, if_neg (by simp), ih (fun z hz => h z (by simp [hz])) (fun z hz => hne z (by simp [hz]))]
    rfl
/-- The last name of a list, the empty one of none. -/
def lastN (F : List TE) : List UInt8 := match F.getLast? with | some e => e.name | none => []
theorem lastN_snoc (F : List TE) (x : TE) : lastN (F ++ [x]) = x.name := by unfold lastN; simp
theorem above_all {F : List TE} {n : List UInt8} (hr : F.Pairwise fun a b => bytesBefore a.name b.name = true) (h : bytesBefore (lastN F) n = true) : ∀ g ∈ F, bytesBefore g.name n = true := by
  intro g hg
  rcases List.eq_nil_or_concat F with rfl | ⟨G, x, rfl⟩
  · cases hg
  · rw [List.concat_eq_append, lastN_snoc] at h
    rw [List.concat_eq_append] at hr hg
    rcases List.mem_append.1 hg with hg | hg
    · exact bytes_trans' ((List.pairwise_append.1 hr).2.2 g hg x (by simp)) h
    · have : g = x := by simpa using hg
      rw [this]; exact h
theorem stT_put {s : ByteArray} {q n : Int} {F : List TE} {a : ByteArray} {x : TE} {l : List UInt8} (h : Rest s q (oneT x ++ l)) (hn : 1 ≤ x.name.length ∧ x.name.length ≤ 100) (hi : 0 ≤ x.id ∧ x.id < n) (hnn : n ≤ 1073741824) (hp : 1 ≤ x.parts ∧ x.parts ≤ 16) (ha : a.data.toList = lastN F) (hr : F.Pairwise fun a b => bytesBefore a.name b.name = true) (hab : bytesBefore (lastN F) x.name = true) :
    stT s n (F, a, q, 0) = (F ++ [x], nmA x, q + ((oneT x).length : Int), 0) ∧ Rest s (q + ((oneT x).length : Int)) l := by
  refine ⟨?_, h.next⟩
  unfold oneT at h ⊢
  rw [List.append_assoc, List.append_assoc] at h
  obtain ⟨e1, h1⟩ := naT_put (a := a.data.toList) h (by rw [nmA_size]; exact hn.2) (by rw [nmA_list, ha]; exact hab)
  obtain ⟨e2, h2⟩ := nuT_put (lo := 0) (hi := n - 1) h1 hi.1 (by omega) (by omega) (by omega)
  obtain ⟨e3, _⟩ := nuT_put (lo := 1) (hi := 16) h2 hp.1 hp.2 (by omega) (by omega)
  unfold stT enT
  simp only
  rw [e1]
  simp only
  rw [e2]
  simp only
  rw [e3, nmA_list]
  rw [show (⟨x.name, x.id, x.parts⟩ : TE) = x from rfl, putT_end (above_all hr hab)]
  simp only [List.length_append, Prod.mk.injEq, true_and, and_true]
  omega
theorem itT_comm (s : ByteArray) (n : Int) (t : RS) : ∀ k, itT s n (stT s n t) k = itT s n t (k + 1)
  | 0 => rfl
  | k + 1 => by
    show stT s n (itT s n (stT s n t) k) = stT s n (itT s n t (k + 1))
    rw [itT_comm s n t k]
theorem itT_put {s : ByteArray} {n : Int} (hnn : n ≤ 1073741824) : ∀ (G F : List TE) (a : ByteArray) (q : Int) (l : List UInt8), Rest s q (G.flatMap oneT ++ l) → (F ++ G).Pairwise (fun a b => bytesBefore a.name b.name = true) → (∀ x ∈ G, (1 ≤ x.name.length ∧ x.name.length ≤ 100) ∧ (0 ≤ x.id ∧ x.id < n) ∧ (1 ≤ x.parts ∧ x.parts ≤ 16)) → a.data.toList = lastN F →
    ∃ a', itT s n (F, a, q, 0) G.length = (F ++ G, a', q + ((G.flatMap oneT).length : Int), 0)
  | [], F, a, q, l, _, _, _, _ => ⟨a, by simp [itT]⟩
  | x :: G, F, a, q, l, h, hr, hx, ha => by
    rw [List.flatMap_cons, List.append_assoc] at h
    obtain ⟨x1, x2, x3⟩ := hx x (by simp)
    have hr1 := (List.pairwise_append.1 hr).1
    have hab : bytesBefore (lastN F) x.name = true := by
      rcases List.eq_nil_or_concat F with rfl | ⟨G', y, rfl⟩
      · show bytesBefore [] x.name = true
        cases hc : x.name with
        | nil => rw [hc] at x1; simp at x1
        | cons b r => rfl
      · rw [List.concat_eq_append, lastN_snoc]
        rw [List.concat_eq_append] at hr
        exact (List.pairwise_append.1 hr).2.2 y (by simp) x (by simp)
    obtain ⟨e1, h1⟩ := stT_put h x1 x2 hnn x3 ha hr1 hab
    obtain ⟨a', e2⟩ := itT_put hnn G (F ++ [x]) (nmA x) _ l h1 (by simpa using hr) (fun y hy => hx y (by simp [hy])) (by rw [nmA_list, lastN_snoc])
    refine ⟨a', ?_⟩
    rw [List.length_cons, ← itT_comm, e1, e2, List.flatMap_cons, List.length_append]
    simp only [List.append_assoc, List.cons_append, List.nil_append, Prod.mk.injEq, true_and, and_true]
    omega
theorem rest_all (l : List UInt8) : Rest ⟨l.toArray⟩ 0 l := ⟨Int.le_refl _, Int.natCast_nonneg _, by simp⟩
theorem nodup_ids {F : List TE} (h : F.Pairwise fun a b => a.id ≠ b.id) : (F.map (·.id)).Nodup := by
  unfold List.Nodup
  rw [List.pairwise_map]
  exact h
/-- What was printed is parsed. -/
theorem parse_print {t : TS} (h : TOk t) : paT ⟨(printT t).toArray⟩ = 0 ∧ (tbT ⟨(printT t).toArray⟩).1 = t.1 ∧ (tbT ⟨(printT t).toArray⟩).2.1 = t.2 := by
  obtain ⟨n, F⟩ := t
  have hr := rest_all (printT (n, F))
  have hn := h.next
  have hm := h.many
  simp only at hn hm
  have hr' : Rest ⟨(printT (n, F)).toArray⟩ 0 (putL n ++ (putL (F.length : Int) ++ (F.flatMap oneT ++ []))) := by rw [List.append_nil]; exact hr
  obtain ⟨e1, h1⟩ := nuT_put (lo := 0) (hi := 1073741824) hr' hn.1 hn.2 (by omega) (by omega)
  obtain ⟨e2, h2⟩ := nuT_put (lo := 0) (hi := 20) h1 (by omega) (by omega) (by omega) (by omega)
  obtain ⟨a', e3⟩ := itT_put (n := n) hn.2 F [] ⟨#[]⟩ _ [] h2 (by simpa using h.rise) (fun x hx => ⟨h.names x hx, h.ids x hx, h.parts x hx⟩) rfl
  have e4 : tbT ⟨(printT (n, F)).toArray⟩ = (n, F, a', 0 + ((putL n).length : Int) + ((putL (F.length : Int)).length : Int) + ((F.flatMap oneT).length : Int), 0) := by
    unfold tbT
    rw [e1]
    simp only
    rw [e2]
    simp only [Int.toNat_natCast]
    rw [e3]
    rfl
  have hsz : ((⟨(printT (n, F)).toArray⟩ : ByteArray).size : Int) = ((putL n).length : Int) + ((putL (F.length : Int)).length : Int) + ((F.flatMap oneT).length : Int) := by
    show (((printT (n, F)).toArray.size : Nat) : Int) = _
    rw [List.size_toArray]
    show (((putL n ++ (putL (F.length : Int) ++ F.flatMap oneT)).length : Nat) : Int) = _
    rw [List.length_append, List.length_append]
    omega
  refine ⟨?_, by rw [e4], by rw [e4]⟩
  unfold paT demE
  rw [e4]
  simp only
  have ht : twB F = false := by unfold twB; rw [decide_eq_true (nodup_ids h.apart)]; rfl
  rw [hsz, ht, decide_eq_true (by omega)]
  simp
/-- What was read, up to an error. -/
theorem itT_back {s : ByteArray} {n : Int} : ∀ (k : Nat) (F : List TE) (a : ByteArray) (q e : Int), (0 ≤ q ∧ q ≤ s.size) → F.Pairwise (fun a b => bytesBefore a.name b.name = true) → a.data.toList = lastN F → (itT s n (F, a, q, e) k).2.2.2 = 0 →
    e = 0 ∧ ∃ G : List TE, G.length = k ∧ (itT s n (F, a, q, e) k).1 = F ++ G ∧ Span s q (itT s n (F, a, q, e) k).2.2.1 (G.flatMap oneT) ∧ (F ++ G).Pairwise (fun a b => bytesBefore a.name b.name = true) ∧ ∀ x ∈ G, (1 ≤ x.name.length ∧ x.name.length ≤ 100) ∧ (0 ≤ x.id ∧ x.id < n) ∧ (1 ≤ x.parts ∧ x.parts ≤ 16)
  | 0, F, a, q, e, hq, hr, _, h => ⟨h, [], rfl, by simp [itT], Span.nil hq.1 hq.2, by simpa using hr, fun x hx => by cases hx⟩
  | k + 1, F, a, q, e, hq, hr, ha, h => by
    rw [← itT_comm] at h ⊢
    by_cases hz : (stT s n (F, a, q, e)).2.2.2 = 0
    · have hz' := hz
      unfold stT at hz'
      simp only at hz'
      obtain ⟨r1, h1⟩ : ∃ r, naT s a.data.toList q e = r := ⟨_, rfl⟩
      rw [h1] at hz'
      have z1 := enT_back hz'
      have o1 := naT_ok (s := s) (a := a.data.toList) (q := q) (e := e) (by rw [h1]; exact z1)
      rw [h1] at o1
      obtain ⟨z0, s1, b1, b2⟩ := o1
      obtain ⟨r2, h2⟩ : ∃ r, nuT s 0 (n - 1) r1.2.1 r1.2.2 = r := ⟨_, rfl⟩
      obtain ⟨r3, h3⟩ : ∃ r, nuT s 1 16 r2.2.1 r2.2.2 = r := ⟨_, rfl⟩
      unfold enT at hz'
      rw [h2, h3] at hz'
      obtain ⟨z2, s3, b5, b6⟩ := nuT_ok (s := s) (lo := 1) (hi := 16) (q := r2.2.1) (e := r2.2.2) (by rw [h3]; exact hz')
      obtain ⟨_, s2, b3, b4⟩ := nuT_ok (s := s) (lo := 0) (hi := n - 1) (q := r1.2.1) (e := r1.2.2) (by rw [h2]; exact z2)
      rw [h3] at s3 b5 b6
      rw [h2] at s2 b3 b4
      have hx : stT s n (F, a, q, e) = (F ++ [⟨r1.1.data.toList, r2.1, r3.1⟩], r1.1, r3.2.1, 0) := by
        unfold stT enT
        simp only
        rw [h1, h2, h3]
        rw [putT_end (above_all hr (by rw [← ha]; exact b2))]
        exact Prod.ext rfl (Prod.ext rfl (Prod.ext rfl hz'))
      rw [hx] at h ⊢
      have hA : bytesBefore (lastN F) r1.1.data.toList = true := by rw [← ha]; exact b2
      have hone : oneT ⟨r1.1.data.toList, r2.1, r3.1⟩ = txt r1.1 ++ (putL r2.1 ++ putL r3.1) := by
        unfold oneT nmA
        simp
      have hs := s1.join (s2.join s3)
      rw [← hone] at hs
      have hnm : 1 ≤ r1.1.data.toList.length := by
        cases hc : r1.1.data.toList with
        | nil =>
          rw [hc] at hA
          cases hl : lastN F <;> rw [hl] at hA <;> cases hA
        | cons b r => simp
      have hrise : (F ++ [(⟨r1.1.data.toList, r2.1, r3.1⟩ : TE)]).Pairwise fun a b => bytesBefore a.name b.name = true := by
        rw [List.pairwise_append]
        refine ⟨hr, List.pairwise_singleton _ _, fun g hg y hy => ?_⟩
        have : y = ⟨r1.1.data.toList, r2.1, r3.1⟩ := by simpa using hy
        rw [this]
        exact above_all hr hA g hg
      obtain ⟨_, G, hk, hG, hsp, hp, hb⟩ := itT_back k (F ++ [⟨r1.1.data.toList, r2.1, r3.1⟩]) r1.1 r3.2.1 0 ⟨by have := hs.1; have := hs.2.1; omega, hs.2.2.1⟩ hrise (by rw [lastN_snoc]) h
      refine ⟨z0, ⟨r1.1.data.toList, r2.1, r3.1⟩ :: G, by simp [hk], by rw [hG]; simp, ?_, by simpa using hp, fun x hx => ?_⟩
      · rw [List.flatMap_cons]
        exact hs.join hsp
      · rcases List.mem_cons.1 hx with rfl | hx
        · refine ⟨⟨hnm, ?_⟩, ⟨b3, by show r2.1 < n; omega⟩, b5, b6⟩
          show r1.1.data.toList.length ≤ 100
          rw [Array.length_toList]
          exact b1
        · exact hb x hx
    · exfalso
      rw [itT_err hz] at h
      exact hz h
/-- What was parsed is printed to the same text. -/
theorem print_parse {s : ByteArray} (h : paT s = 0) : (⟨(printT ((tbT s).1, (tbT s).2.1)).toArray⟩ : ByteArray) = s ∧ TOk ((tbT s).1, (tbT s).2.1) := by
  unfold paT demE at h
  split at h
  · exact absurd h (by decide)
  · rename_i hne
    have hb : (decide ((tbT s).2.2.2.1 = (s.size : Int)) && !twB (tbT s).2.1) = true := by
      cases hc : (decide ((tbT s).2.2.2.1 = (s.size : Int)) && !twB (tbT s).2.1) with
      | true => rfl
      | false => exact absurd ⟨h, hc⟩ hne
    simp only [Bool.and_eq_true, decide_eq_true_eq] at hb
    obtain ⟨hq, htw⟩ := hb
    clear hne
    unfold tbT at *
    simp only at *
    obtain ⟨r1, h1⟩ : ∃ r, nuT s 0 1073741824 0 0 = r := ⟨_, rfl⟩
    obtain ⟨r2, h2⟩ : ∃ r, nuT s 0 20 r1.2.1 r1.2.2 = r := ⟨_, rfl⟩
    have o1 := fun hz => nuT_ok (s := s) (lo := 0) (hi := 1073741824) (q := 0) (e := 0) hz
    have o2 := fun hz => nuT_ok (s := s) (lo := 0) (hi := 20) (q := r1.2.1) (e := r1.2.2) hz
    have i2 := nuT_in s 0 20 r1.2.1 r1.2.2
    rw [h1] at h hq htw o1 ⊢
    rw [h2] at h hq htw o2 i2 ⊢
    have z2 : r2.2.2 = 0 := by
      rcases i2 with ⟨_, _, z⟩ | ⟨z0, z⟩
      · exact z
      · exfalso
        rw [z0] at h
        exact z h
    obtain ⟨z1, s2, b3, b4⟩ := o2 z2
    obtain ⟨_, s1, b1, b2⟩ := o1 z1
    obtain ⟨_, G, hk, hG, hsp, hp, hb⟩ := itT_back r2.1.toNat [] ⟨#[]⟩ r2.2.1 r2.2.2 ⟨by have := s2.1; have := s2.2.1; omega, s2.2.2.1⟩ .nil rfl h
    rw [List.nil_append] at hG hp
    rw [hG] at htw ⊢
    have hlen : (G.length : Int) = r2.1 := by rw [hk]; omega
    refine ⟨?_, ⟨hp, ⟨b1, b2⟩, by show G.length ≤ 20; omega, fun e he => (hb e he).2.1, fun e he => (hb e he).2.2, fun e he => (hb e he).1, ?_⟩⟩
    · have hs := s1.join (s2.join hsp)
      have e9 : printT (r1.1, G) = putL r1.1 ++ (putL r2.1 ++ G.flatMap oneT) := by
        show putL r1.1 ++ (putL (G.length : Int) ++ G.flatMap oneT) = _
        rw [hlen]
      rw [← e9] at hs
      have hq' := hq
      have hs2 : Span s 0 s.size (printT (r1.1, G)) := hq' ▸ hs
      have := hs2.extract
      rw [← this]
      simp
    · have : (G.map (·.id)).Nodup := by
        unfold twB at htw
        simpa using htw
      unfold List.Nodup at this
      rw [List.pairwise_map] at this
      exact this
end Go.Proofs.Ytnpfakjgocnkbaa
