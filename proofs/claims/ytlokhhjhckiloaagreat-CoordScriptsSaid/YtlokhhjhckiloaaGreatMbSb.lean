/- member: what members want, as assign takes it; plain laws. No condition. -/
import Derived.Test.YtlokhhjhckiloaaGreatMbJn
import Derived.Test.YtlokhhjhckiloaaGreatAsRn
namespace Go.Proofs.YtlokhhjhckiloaaGreat
open Go.RowKit
set_option linter.unusedVariables false
/-- What members want, without the places where it lies. -/
def stripX (x : SX) : SX := (x.1, x.2.1, none, 0)
def stripS (S : List SX) : List SX := S.map stripX
theorem strip_len (S : List SX) : (stripS S).length = S.length := by simp [stripS]
theorem strip_takers (S : List SX) (s : ByteArray) (k : Nat) : takersG (stripS S) s k = takersG S s k := by
  unfold takersG
  refine List.filter_congr fun i _ => ?_
  unfold stripS
  rw [List.getElem?_map]
  cases S[i]? <;> rfl
theorem strip_range (S : List SX) (T : List TX) : rangeD (stripS S) T = rangeD S T := by
  have h : stepR (stripS S) = stepR S := by
    funext D t
    unfold stepR
    rw [strip_len, strip_takers]
  unfold rangeD
  rw [h]
theorem strip_round (S : List SX) (T : List TX) : roundD (stripS S) T = roundD S T := by
  have h : stepO (stripS S) = stepO S := by
    funext D t
    unfold stepO
    rw [strip_len, strip_takers]
  unfold roundD
  rw [h]
theorem strip_may (S : List SX) : mayS (stripS S) = mayS S := by
  have h1 : (stripS S).all okS = S.all okS := by
    unfold stripS
    rw [List.all_map]
    rfl
  have h2 : risesB sL (stripS S) = risesB sL S := by
    unfold risesB
    rw [strip_len]
    congr 1
    funext i
    unfold stripS
    rw [List.getElem?_map, List.getElem?_map]
    cases S[i]? <;> cases S[i + 1]? <;> rfl
  unfold mayS
  rw [strip_len, h1, h2]
theorem strip_chk (S : List SX) (T : List TX) : chkE (stripS S) T = chkE S T := by
  unfold chkE
  rw [strip_may]
/-- What a group's members want. -/
def subsD (L : List MD) : List SX := L.map fun x => (x.n, x.T, none, 0)
def slA (v : Value) : Option Addr × Nat := match v with | .slice A _ c => (A, c) | _ => (none, 0)
def subV (x : MV) : SX := (x.d.n, x.d.T, slA x.tv)
def subsV (R : List MV) : List SX := R.map subV
theorem subs_strip {R : List MV} {L : List MD} (h : R.map MV.d = L) : stripS (subsV R) = subsD L := by
  rw [← h]
  unfold stripS subsV subsD
  rw [List.map_map, List.map_map]
  rfl
theorem subsV_len (R : List MV) : (subsV R).length = R.length := by simp [subsV]
/-- Members as assign takes them, as cells. -/
def subC (R : List MV) : List Value := R.flatMap fun x => [.int .i64 x.d.n, x.tv]
theorem subC_len (R : List MV) : (subC R).length = R.length * 2 := by
  induction R with
  | nil => rfl
  | cons a L ih => rw [subC, List.flatMap_cons, List.length_append, ← subC, ih]; simp; omega
theorem subC_at {R : List MV} {j : Nat} {x : MV} (h : R[j]? = some x) : (subC R)[j * 2]? = some (.int .i64 x.d.n) ∧ (subC R)[j * 2 + 1]? = some x.tv := by
  induction R generalizing j with
  | nil => simp at h
  | cons a L ih =>
    have e : subC (a :: L) = .int .i64 a.d.n :: a.tv :: subC L := rfl
    rw [e]
    cases j with
    | zero => simp at h; subst h; exact ⟨rfl, rfl⟩
    | succ j => have := ih (j := j) (by simpa using h); rw [show (j + 1) * 2 = j * 2 + 1 + 1 by omega]; simpa using this
theorem subC_succ {R : List MV} {k : Nat} {x : MV} (h : R[k]? = some x) : subC (R.take (k + 1)) = subC (R.take k) ++ [.int .i64 x.d.n, x.tv] := by
  unfold subC
  rw [List.take_add_one, h, Option.toList_some, List.flatMap_append]; rfl
theorem str_in {w : World} {B n : Nat} {v : Value} {T : List ByteArray} (h : w.ownsRow B 9 1 v n (strC T)) (hn : n = T.length) : v = .slice (slA v).1 T.length (slA v).2 ∧ StrIn w (slA v).1 T := by
  subst hn
  obtain ⟨A, c, e⟩ := own_slice h
  subst e
  refine ⟨rfl, fun hp => ?_⟩
  obtain ⟨g, e, hlt, _, _, hc⟩ := own_in h hp
  exact ⟨g, 0, e, hlt, fun j s hs => by rw [Nat.zero_add]; exact hc j _ (by simp [strC, hs])⟩
theorem subs_in {w : World} {base B n c : Nat} {A : Option Addr} {R : List MV} (h : w.ownsRow base 142 2 (.slice A n c) n (subC R)) (hn : n = R.length) (ha : ∀ x ∈ R, MvOk w B x) : SbIn w A (subsV R) := fun hp => by
  subst hn
  rw [subsV_len] at hp
  obtain ⟨g, e, hlt, _, _, hc⟩ := own_in h hp
  refine ⟨g, 0, e, hlt, fun j y hy => ?_⟩
  unfold subsV at hy
  rw [List.getElem?_map] at hy
  cases hx : R[j]? with
  | none => rw [hx] at hy; cases hy
  | some x =>
    rw [hx] at hy
    injection hy with hy
    subst hy
    obtain ⟨e1, e2⟩ := str_in (ha x (List.mem_of_getElem? hx)).tr rfl
    obtain ⟨q0, q1⟩ := subC_at hx
    rw [Nat.zero_add]
    refine ⟨⟨hc _ _ q0, ?_⟩, e2⟩
    rw [hc _ _ q1]
    exact congrArg some e1
/-- How the parts are dealt. -/
def dealF (L : List MD) (T : List TX) (round : Bool) : Nat → List TX := if round = true then (roundD (subsD L) T).1 else rangeD (subsD L) T
def dealE (L : List MD) (T : List TX) : Int := chkE (subsD L) T
def dealD (T : List TX) (round : Bool) (G : GD) : GD := if dealE G.L T = 0 then { G with ph := 3, un := 0, L := G.L.mapIdx fun j x => { x with P := dealF G.L T round j } } else G
theorem GrIs.abs2 {w : World} {B p : Nat} {v : Value} {R : List MV} {G G' : GD} (h : GrIs w B p v R G) (hG : G' = { G with L := R.map MV.d }) : GrIs w B p v R G' := by
  subst hG
  exact ⟨h.box, h.base, h.row, h.all, rfl⟩
end Go.Proofs.YtlokhhjhckiloaaGreat
