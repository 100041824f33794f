/- idem: Print, by a contract. No condition but that they are not too many. -/
import Derived.Test.YtdhakekndinbeaaImPt
import Derived.Test.YtdhakekndinbeaaImNote
import Derived.Test.YtdhakekndinbeaaIterI
import Derived.Maps.OwnSet
namespace Go.Proofs.Ytdhakekndinbeaa
open Go.RowKit Go.Maps Go.ChangeMaps Go.WideMaps Go.Sort Go.Shelf
set_option linter.unusedVariables false
def sentL (s : SN) : List UInt8 := putsL [s.1, s.2.1, s.2.2]
/-- One that was heard, as text: up to the j-th of its window; whole. -/
def oneK (y : GH) (j : Nat) : List UInt8 := putsL [y.1, y.2.1, (y.2.2.length : Int)] ++ (y.2.2.take j).flatMap sentL
def oneL (y : GH) : List UInt8 := putsL [y.1, y.2.1, (y.2.2.length : Int)] ++ y.2.2.flatMap sentL
/-- All of them, as text. -/
def printL (G : List GH) : List UInt8 := putL (G.length : Int) ++ G.flatMap oneL
def prK (G : List GH) (k : Nat) : List UInt8 := putL (G.length : Int) ++ (G.take k).flatMap oneL
theorem prK_zero (G : List GH) : prK G 0 = putL (G.length : Int) := by simp [prK]
theorem prK_end (G : List GH) {k : Nat} (h : G.length ≤ k) : prK G k = printL G := by unfold prK printL; rw [List.take_of_length_le h]
theorem take_snoc' {α : Type} {L : List α} {k : Nat} {x : α} (h : L[k]? = some x) : L.take (k + 1) = L.take k ++ [x] := by rw [List.take_add_one, h]; rfl
theorem prK_snoc {G : List GH} {k : Nat} {y : GH} (h : G[k]? = some y) : prK G k ++ oneL y = prK G (k + 1) := by
  unfold prK
  rw [take_snoc' h, List.flatMap_append]
  simp
theorem oneK_zero (y : GH) : oneK y 0 = putsL [y.1, y.2.1, (y.2.2.length : Int)] := by simp [oneK]
theorem oneK_end (y : GH) {j : Nat} (h : y.2.2.length ≤ j) : oneK y j = oneL y := by unfold oneK oneL; rw [List.take_of_length_le h]
theorem oneK_snoc {y : GH} {j : Nat} {s : SN} (h : y.2.2[j]? = some s) : oneK y j ++ sentL s = oneK y (j + 1) := by
  unfold oneK
  rw [take_snoc' h, List.flatMap_append]
  simp
theorem sentL_len (s : SN) : (sentL s).length ≤ 30 := puts_len _
theorem flat_le {α : Type} (f : α → List UInt8) (b : Nat) : ∀ L : List α, (∀ x ∈ L, (f x).length ≤ b) → (L.flatMap f).length ≤ b * L.length
  | [], _ => by simp
  | x :: l, h => by
    rw [List.flatMap_cons, List.length_append, List.length_cons, Nat.mul_add]
    have h1 := h x (by simp)
    have h2 := flat_le f b l (fun y hy => h y (by simp [hy]))
    omega
theorem oneK_len (y : GH) (j : Nat) : (oneK y j).length ≤ 30 + 30 * j := by
  unfold oneK
  rw [List.length_append]
  have h1 := puts_len [y.1, y.2.1, (y.2.2.length : Int)]
  have h2 := flat_le sentL 30 (y.2.2.take j) (fun s _ => sentL_len s)
  have h3 : (y.2.2.take j).length ≤ j := List.length_take_le _ _
  have h4 : [y.1, y.2.1, (y.2.2.length : Int)].length = 3 := rfl
  have h5 : 30 * (y.2.2.take j).length ≤ 30 * j := Nat.mul_le_mul_left _ h3
  omega
theorem oneL_len (y : GH) (h : y.2.2.length ≤ 5) : (oneL y).length ≤ 180 := by
  rw [← oneK_end y h]
  exact oneK_len y 5
theorem prK_len (G : List GH) (k : Nat) (h : ∀ y ∈ G, y.2.2.length ≤ 5) : (prK G k).length ≤ 10 + 180 * G.length := by
  unfold prK
  rw [List.length_append]
  have h1 := putL_len (G.length : Int)
  have h2 := flat_le oneL 180 (G.take k) (fun y hy => oneL_len y (h y (List.mem_of_mem_take hy)))
  have h3 : (G.take k).length ≤ G.length := by rw [List.length_take]; omega
  have h5 : 180 * (G.take k).length ≤ 180 * G.length := Nat.mul_le_mul_left _ h3
  omega
theorem intKeys_mapP (F : List HE) : intKeys (mapP F) = F.map (·.id) := by
  unfold mapP
  show List.map _ (F.map entP) = _
  rw [List.map_map]
  rfl
theorem sort_ids {F : List HE} (hs : F.Pairwise fun a b => a.id < b.id) {ss : List Int} (hp : ss.Perm (F.map (·.id))) : ss.mergeSort (fun x y => decide (x ≤ y)) = F.map (·.id) := by
  have hF : (F.map (·.id)).Pairwise fun a b => decide (a ≤ b) = true := by
    rw [List.pairwise_map]
    exact hs.imp fun {a b} h => by simp only [decide_eq_true_eq]; omega
  refine List.Perm.eq_of_pairwise (le := fun a b => decide (a ≤ b) = true) (fun a b _ _ h k => ?_) (List.pairwise_mergeSort (fun a b c h k => ?_) (fun a b => ?_) ss) hF ((List.mergeSort_perm ss _).trans hp)
  · simp only [decide_eq_true_eq] at h k; omega
  · simp only [decide_eq_true_eq] at *; omega
  · simp only [Bool.or_eq_true, decide_eq_true_eq]; omega
def idsV (F : List HE) : List Value := F.map fun h => .int .i64 h.id
/-- What Sorted hands back. -/
def SortedIs (W : World) (F : List HE) (en : Ending) (w' : World) : Prop := ∃ v, en = .returned v ∧ w'.ownsRow W.heap.size 3 1 v F.length (idsV F) ∧ Below W.heap.size W w'
theorem pd_size (F : List HE) : Maps.size (mapP F) = F.length := by unfold mapP Maps.size; simp
theorem sorted_c {w : World} {p : Nat} {m : Option Nat} {F : List HE} (h : PdIs w p m F) (hlen : F.length ≤ 1000000) :
    Calls Try.prog 36 #[.func (.func 49) #[] #[.pointer (some ⟨w.heap.size, 0, none⟩)]] (w.alloc (.cells #[.map m] 56)) (SortedIs (w.alloc (.cells #[.map m] 56)) F) := by
  rcases h.map with ⟨rfl, rfl⟩ | ⟨g, rfl, hown⟩
  · refine ((callsIn_wide (n := 5)).1 (Try.slices_Sorted_keys_nil_36_37 w)).mono ?_
    rintro e w' ⟨v, ss, rfl, rfl, hrow, _, hb⟩
    exact ⟨v, rfl, by simpa [idsV] using hrow, hb⟩
  · refine ((callsIn_wide (n := 5)).1 (Try.slices_Sorted_keys_36_37 g F.length (mapP F) tokP w hown (by rw [pd_size]; unfold maxLen; omega) (by rw [pd_size]; omega))).mono ?_
    rintro e w' ⟨v, ss, rfl, hS, hrow, _, hb⟩
    rw [intKeys_mapP] at hS
    rw [sort_ids h.rise hS, show ss.length = F.length by rw [hS.length_eq, List.length_map]] at hrow
    refine ⟨v, rfl, ?_, hb⟩
    have e : (F.map (·.id)).map encZ = idsV F := by rw [List.map_map]; rfl
    rwa [e] at hrow
theorem len_run {w : World} {p : Nat} {m : Option Nat} {F : List HE} (h : PdIs w p m F) (ty : TypeId) : (Builtin.len_ #[56] ty #[.map m]).run Try.prog w = .ok (.int .i64 (F.length : Int)) w := by
  rcases h.map with ⟨rfl, rfl⟩ | ⟨g, rfl, hown⟩
  · have u := run_underlying (P := Try.prog) Try.underlying56
    simp [Builtin.len_, go_sem, u]
  · rw [hown.len Try.underlying56, pd_size]
end Go.Proofs.Ytdhakekndinbeaa
