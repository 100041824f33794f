/- offsets: a commit as a record, there and back: plain words. No condition. -/
import Derived.Test.YtlkhfgkgngcakaaOfCi
import Derived.Test.YtlkhfgkgngcakaaRd
import Derived.Test.YtlkhfgkgngcakaaRecBase
namespace Go.Proofs.Ytlkhfgkgngcakaa
open Go.RowKit
set_option linter.unusedVariables false
/-- A key in a record's Key. -/
def enKey (k : KY) : List UInt8 := txt k.g ++ (txt k.t ++ putL k.i)
/-- A commit's record. -/
def enRec (k : KY) (a tm : Int) : Rec := ⟨0, tm, false, ⟨(enKey k).toArray⟩, decide (a = -1), if a = -1 then ⟨#[]⟩ else ⟨(putL a).toArray⟩, []⟩
def enOk (k : KY) (a tm : Int) : Bool := mayK k && (witB tm 0 1099511627776 && (decide (a = -1) || witB a 0 1099511627776))
def enE (k : KY) (a tm : Int) : Int := if enOk k a tm = true then 0 else 1
def enR (k : KY) (a tm : Int) : Rec := if enOk k a tm = true then enRec k a tm else recZero
/-- What a record commits, if it does. -/
def cmK (r : Rec) : KY := ⟨(takeG r.key 0 100).1, (takeG r.key (takeG r.key 0 100).2.1 100).1, (getG r.key (takeG r.key (takeG r.key 0 100).2.1 100).2.1).1⟩
def cmA (r : Rec) : Int := if r.gone = true then -1 else (getG r.value 0).1
def encS (r : Rec) : ByteArray := if okRec r = true then encR r else ⟨#[]⟩
def cmOk (r : Rec) : Bool := enOk (cmK r) (cmA r) r.time && decide (encS r = encS (enRec (cmK r) (cmA r) r.time))
theorem wit_of {n l m : Int} (h : witB n l m = true) : l ≤ n ∧ n ≤ m := by unfold witB at h; simpa using h
theorem mayK_parts {k : KY} (h : mayK k = true) : (1 ≤ (k.g.size : Int) ∧ (k.g.size : Int) ≤ 100) ∧ (1 ≤ (k.t.size : Int) ∧ (k.t.size : Int) ≤ 100) ∧ 0 ≤ k.i ∧ k.i ≤ 15 := by
  unfold mayK at h
  simp only [Bool.and_eq_true] at h
  exact ⟨wit_of h.1, wit_of h.2.1, wit_of h.2.2⟩
theorem enOk_parts {k : KY} {a tm : Int} (h : enOk k a tm = true) : mayK k = true ∧ (0 ≤ tm ∧ tm ≤ 1099511627776) ∧ -1 ≤ a ∧ a ≤ 1099511627776 := by
  unfold enOk at h
  simp only [Bool.and_eq_true, Bool.or_eq_true, decide_eq_true_eq] at h
  refine ⟨h.1, wit_of h.2.1, ?_⟩
  rcases h.2.2 with e | e
  · omega
  · have := wit_of e; omega
theorem key_rest (k : KY) : Rest ⟨(enKey k).toArray⟩ 0 (txt k.g ++ (txt k.t ++ (putL k.i ++ []))) := by
  refine ⟨Int.le_refl _, by omega, ?_⟩
  simp [enKey]
theorem num_rest (n : Int) : Rest ⟨(putL n).toArray⟩ 0 (putL n ++ []) := by
  refine ⟨Int.le_refl _, by omega, ?_⟩
  simp
theorem cm_of {k : KY} {a tm : Int} (h : enOk k a tm = true) : cmK (enRec k a tm) = k ∧ cmA (enRec k a tm) = a ∧ cmOk (enRec k a tm) = true := by
  obtain ⟨hm, htm, ha⟩ := enOk_parts h
  obtain ⟨hg, ht, hi⟩ := mayK_parts hm
  have e1 := take_rest (m := 100) (key_rest k) hg.2 (by omega)
  have r1 := (key_rest k).next
  have e2 := take_rest (m := 100) r1 ht.2 (by omega)
  have e3 := get_rest r1.next (by omega) (by omega)
  have hk : cmK (enRec k a tm) = k := by
    unfold cmK enRec
    simp only
    rw [e1]
    simp only
    rw [e2]
    simp only
    rw [e3]
  have hA : cmA (enRec k a tm) = a := by
    unfold cmA enRec
    simp only [decide_eq_true_eq]
    by_cases e : a = -1
    · rw [if_pos e, e]
    · rw [if_neg e, if_neg e]
      have e4 := get_rest (num_rest a) (by omega) (by omega)
      rw [e4]
  refine ⟨hk, hA, ?_⟩
  unfold cmOk
  rw [hk, hA]
  have : (enRec k a tm).time = tm := rfl
  rw [this, h]
  simp
theorem txt_size {t : ByteArray} (h : t.size ≤ 100) : (txt t).length ≤ 110 := by rw [txt_len]; have := putL_len t.size; omega
theorem enRec_ok {k : KY} {a tm : Int} (h : enOk k a tm = true) : okRec (enRec k a tm) = true := by
  obtain ⟨hm, htm, ha⟩ := enOk_parts h
  obtain ⟨hg, ht, hi⟩ := mayK_parts hm
  have s1 := txt_size (t := k.g) (by omega)
  have s2 := txt_size (t := k.t) (by omega)
  have s3 := putL_len k.i
  have s4 := putL_len a
  have hk : (⟨(enKey k).toArray⟩ : ByteArray).size ≤ 1000 := by
    show (enKey k).length ≤ 1000
    unfold enKey
    simp only [List.length_append]
    omega
  unfold okRec okNum okLen okFlag okMany enRec
  simp only [List.length_nil, List.all_nil, Bool.and_true, Bool.false_and, Bool.false_or]
  by_cases e : a = -1
  · rw [if_pos e, decide_eq_true e]
    simp [hk, htm.1, htm.2]
    exact ⟨by decide, rfl⟩
  · rw [if_neg e, decide_eq_false e]
    have hv : (⟨(putL a).toArray⟩ : ByteArray).size ≤ 1000 := by show (putL a).length ≤ 1000; omega
    simp [hk, hv, htm.1, htm.2]
theorem rin_nil (w : World) (r : Rec) (hh : r.heads = []) (hk : r.key.size ≤ 1152921504606846976) (hv : r.value.size ≤ 1152921504606846976) : RIn w r none 0 :=
  ⟨by rw [hh]; exact HIn.nil _ _, by rw [hh]; simp, hk, hv, by rw [hh]; simp⟩
end Go.Proofs.Ytlkhfgkgngcakaa
