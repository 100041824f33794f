/- coord: merged texts. What each proves is told at its head. -/
import Derived.Shelf.SlIter.Nil
import Derived.Shelf.SortM.Plain
import Derived.Shelf.SortM.SortNone
import Derived.Ground.GgzProg
import Derived.Ground.SlgmProg
import Derived.Test.YtlokhhjhckiloaaGreatProg
import Derived.Test.YtlokhhjhckiloaaGreatQ0
import Derived.Sort.Walk0
import Derived.BigQuiet
import Derived.RangeFuncNested
import Derived.RangeFuncBound
import Derived.RangeFuncCalls
import Derived.RangeFuncLeaves
import Derived.RangeFuncBox
import Derived.OwnWalkIn
import Derived.TacticsInMore
import Derived.LoopNIn
import Derived.LoopIn
import Derived.Maps.AppendAt
import Derived.Deep.AppendLies
import Derived.BigRegion
import Derived.Lib.SlMapFilter
import Derived.Maps.Ext
import Derived.Maps.RangeWalk
import Derived.Laws.IdiomRangeMap
import Derived.Deep.LoopGhost
import Derived.Shelf.Abstract
/-
  DERIVED: THE SHELF's CONTRACTS AT THIS DUMP, IN PLAIN WORDS (tools/lay-plain.mjs out of 'TryzIterShelf.lean', which tools/lay-shelf.mjs wrote): THE SAME DECLARATIONS UNDER THE SAME NAMES: 'import', 'namespace', 'open', 'def', 'theorem' AND NOTHING ELSE: no command of the shelf's: FOR A HAND-IN. Each laying: the table of numbers ('.._ren') and one theorem, a field a fact of the dump's own or the kernel's comparison; each contract: ONE APPLICATION.
-/
namespace Go.Proofs
open Go.Shelf
def Tryz.keys78_ren : Go.Shelf.Ren := ⟨fun | 7 => 78 | 10 => 110 | n => n, fun | 23 => 67 | 26 => 9 | 3 => 61 | 28 => 132 | 0 => 0 | 27 => 131 | 33 => 155 | 4 => 4 | n => n, fun | n => n⟩
theorem Tryz.keys78 : Go.Proofs.SlLaysZ.n7 Tryz.prog Tryz.keys78_ren := {
  mixed := by kernel_rfl
  f7 := ⟨Tryz.f78.name, by decide, Tryz.func78.trans (congrArg some (by kernel_rfl))⟩
  f10 := ⟨Tryz.f110.name, by decide, Tryz.func110.trans (congrArg some (by kernel_rfl))⟩
  t0 := Tryz.underlying0
  a0 := Tryz.isAgg0
  z0 := Tryz.sizeOf0
  v0 := Tryz.zeroValue0
  t4 := Tryz.underlying4
  a4 := Tryz.isAgg4
  z4 := Tryz.sizeOf4
  v4 := Tryz.zeroValue4
  t23 := Tryz.underlying67
  a23 := Tryz.isAgg67
  z23 := Tryz.sizeOf67
  v23 := Tryz.zeroValue67
  t26 := Tryz.underlying9
  a26 := Tryz.isAgg9
  z26 := Tryz.sizeOf9
  v26 := Tryz.zeroValue9
  t27 := Tryz.underlying131
  a27 := Tryz.isAgg131
  z27 := Tryz.sizeOf131
  v27 := Tryz.zeroValue131
  t28 := Tryz.underlying132
  a28 := Tryz.isAgg132
  z28 := Tryz.sizeOf132
  v28 := Tryz.zeroValue132
  t33 := Tryz.underlying155
  a33 := Tryz.isAgg155
  z33 := Tryz.sizeOf155
  v33 := Tryz.zeroValue155 }
def Tryz.sorted77_ren : Go.Shelf.Ren := ⟨fun | 6 => 77 | 8 => 108 | 9 => 109 | 11 => 127 | 13 => 129 | 12 => 128 | 23 => 151 | 24 => 152 | 14 => 142 | 15 => 143 | 16 => 144 | 17 => 145 | 18 => 146 | 19 => 147 | 20 => 148 | 21 => 149 | 22 => 150 | 25 => 156 | 26 => 157 | 27 => 158 | 28 => 159 | 29 => 160 | 30 => 161 | 31 => 162 | n => n, fun | 26 => 9 | 28 => 132 | 24 => 31 | 0 => 0 | 3 => 3 | 37 => 173 | 48 => 193 | 50 => 195 | 4 => 4 | 40 => 187 | 39 => 186 | 45 => 47 | 5 => 5 | 9 => 9 | 51 => 199 | 55 => 203 | 57 => 205 | 58 => 206 | 33 => 155 | n => n, fun | n => n⟩
theorem Tryz.sorted77 : Go.Proofs.SlLaysZ.n6 Tryz.prog Tryz.sorted77_ren := {
  mixed := by kernel_rfl
  f6 := ⟨Tryz.f77.name, by decide, Tryz.func77.trans (congrArg some (by kernel_rfl))⟩
  f8 := ⟨Tryz.f108.name, by decide, Tryz.func108.trans (congrArg some (by kernel_rfl))⟩
  f11 := ⟨Tryz.f127.name, by decide, Tryz.func127.trans (congrArg some (by kernel_rfl))⟩
  t0 := Tryz.underlying0
  a0 := Tryz.isAgg0
  z0 := Tryz.sizeOf0
  v0 := Tryz.zeroValue0
  t24 := Tryz.underlying31
  a24 := Tryz.isAgg31
  z24 := Tryz.sizeOf31
  v24 := Tryz.zeroValue31
  t26 := Tryz.underlying9
  a26 := Tryz.isAgg9
  z26 := Tryz.sizeOf9
  v26 := Tryz.zeroValue9
  t28 := Tryz.underlying132
  a28 := Tryz.isAgg132
  z28 := Tryz.sizeOf132
  v28 := Tryz.zeroValue132
  i26 := by kernel_rfl }
def Tryz.sort109_ren : Go.Shelf.Ren := ⟨fun | 6 => 109 | 8 => 129 | 9 => 128 | 19 => 151 | 20 => 152 | 21 => 142 | 22 => 143 | 23 => 144 | 24 => 145 | 25 => 146 | 26 => 147 | 27 => 148 | 28 => 149 | 29 => 150 | 36 => 156 | 31 => 157 | 32 => 158 | 37 => 159 | 38 => 160 | 39 => 161 | 41 => 162 | n => n, fun | 27 => 31 | 29 => 9 | 3 => 3 | 32 => 173 | 26 => 31 | 0 => 0 | 44 => 193 | 46 => 195 | 4 => 4 | 36 => 187 | 35 => 186 | 41 => 47 | 5 => 5 | 9 => 9 | 53 => 199 | 57 => 203 | 63 => 205 | 64 => 206 | n => n, fun | n => n⟩
theorem Tryz.sort109 : Go.Proofs.SlLaysM.n6 Tryz.prog Tryz.sort109_ren := {
  mixed := by kernel_rfl
  f6 := ⟨Tryz.f109.name, by decide, Tryz.func109.trans (congrArg some (by kernel_rfl))⟩
  f8 := Tryz.func129.trans (congrArg some (by kernel_rfl))
  f9 := ⟨Tryz.f128.name, by decide, Tryz.func128.trans (congrArg some (by kernel_rfl))⟩
  f19 := Tryz.func151.trans (congrArg some (by kernel_rfl))
  f20 := Tryz.func152.trans (congrArg some (by kernel_rfl))
  f21 := ⟨Tryz.f142.name, by decide, Tryz.func142.trans (congrArg some (by kernel_rfl))⟩
  f22 := ⟨Tryz.f143.name, by decide, Tryz.func143.trans (congrArg some (by kernel_rfl))⟩
  f23 := ⟨Tryz.f144.name, by decide, Tryz.func144.trans (congrArg some (by kernel_rfl))⟩
  f24 := ⟨Tryz.f145.name, by decide, Tryz.func145.trans (congrArg some (by kernel_rfl))⟩
  f25 := ⟨Tryz.f146.name, by decide, Tryz.func146.trans (congrArg some (by kernel_rfl))⟩
  f26 := ⟨Tryz.f147.name, by decide, Tryz.func147.trans (congrArg some (by kernel_rfl))⟩
  f27 := ⟨Tryz.f148.name, by decide, Tryz.func148.trans (congrArg some (by kernel_rfl))⟩
  f28 := ⟨Tryz.f149.name, by decide, Tryz.func149.trans (congrArg some (by kernel_rfl))⟩
  f29 := ⟨Tryz.f150.name, by decide, Tryz.func150.trans (congrArg some (by kernel_rfl))⟩
  f31 := Tryz.func157.trans (congrArg some (by kernel_rfl))
  f32 := Tryz.func158.trans (congrArg some (by kernel_rfl))
  f36 := ⟨Tryz.f156.name, by decide, Tryz.func156.trans (congrArg some (by kernel_rfl))⟩
  f37 := ⟨Tryz.f159.name, by decide, Tryz.func159.trans (congrArg some (by kernel_rfl))⟩
  f38 := ⟨Tryz.f160.name, by decide, Tryz.func160.trans (congrArg some (by kernel_rfl))⟩
  f39 := ⟨Tryz.f161.name, by decide, Tryz.func161.trans (congrArg some (by kernel_rfl))⟩
  f41 := ⟨Tryz.f162.name, by decide, Tryz.func162.trans (congrArg some (by kernel_rfl))⟩
  t0 := Tryz.underlying0
  a0 := Tryz.isAgg0
  z0 := Tryz.sizeOf0
  v0 := Tryz.zeroValue0
  t3 := Tryz.underlying3
  a3 := Tryz.isAgg3
  z3 := Tryz.sizeOf3
  v3 := Tryz.zeroValue3
  t4 := Tryz.underlying4
  a4 := Tryz.isAgg4
  z4 := Tryz.sizeOf4
  v4 := Tryz.zeroValue4
  t5 := Tryz.underlying5
  a5 := Tryz.isAgg5
  z5 := Tryz.sizeOf5
  v5 := Tryz.zeroValue5
  t9 := Tryz.underlying9
  a9 := Tryz.isAgg9
  z9 := Tryz.sizeOf9
  v9 := Tryz.zeroValue9
  t26 := Tryz.underlying31
  a26 := Tryz.isAgg31
  z26 := Tryz.sizeOf31
  v26 := Tryz.zeroValue31
  t27 := Tryz.underlying31
  a27 := Tryz.isAgg31
  z27 := Tryz.sizeOf31
  v27 := Tryz.zeroValue31
  t29 := Tryz.underlying9
  a29 := Tryz.isAgg9
  z29 := Tryz.sizeOf9
  v29 := Tryz.zeroValue9
  t32 := Tryz.underlying173
  a32 := Tryz.isAgg173
  z32 := Tryz.sizeOf173
  v32 := Tryz.zeroValue173
  t35 := Tryz.underlying186
  a35 := Tryz.isAgg186
  z35 := Tryz.sizeOf186
  v35 := Tryz.zeroValue186
  t36 := Tryz.underlying187
  a36 := Tryz.isAgg187
  z36 := Tryz.sizeOf187
  v36 := Tryz.zeroValue187
  t41 := Tryz.underlying47
  a41 := Tryz.isAgg47
  z41 := Tryz.sizeOf47
  v41 := Tryz.zeroValue47
  t44 := Tryz.underlying193
  a44 := Tryz.isAgg193
  z44 := Tryz.sizeOf193
  v44 := Tryz.zeroValue193
  t46 := Tryz.underlying195
  a46 := Tryz.isAgg195
  z46 := Tryz.sizeOf195
  v46 := Tryz.zeroValue195
  t53 := Tryz.underlying199
  a53 := Tryz.isAgg199
  z53 := Tryz.sizeOf199
  v53 := Tryz.zeroValue199
  t57 := Tryz.underlying203
  a57 := Tryz.isAgg203
  z57 := Tryz.sizeOf203
  v57 := Tryz.zeroValue203
  t63 := Tryz.underlying205
  a63 := Tryz.isAgg205
  z63 := Tryz.sizeOf205
  v63 := Tryz.zeroValue205
  t64 := Tryz.underlying206
  a64 := Tryz.isAgg206
  z64 := Tryz.sizeOf206
  v64 := Tryz.zeroValue206 }
open Go.RowKit Go.Maps Go.Sort in
theorem Tryz.sorts77 (m : Nat) : AnyZ.SortsIn Tryz.prog Tryz.sorted77_ren Fence.wide m :=
  ⟨fun blk off cap ss W hH hblk hsz => callsIn_wide.2 (AnyM.slices_Sort_string Tryz.sort109 blk off cap ss W hH hblk hsz),
   fun p cap W => callsIn_wide.2 (AnyM.slices_Sort_string_none Tryz.sort109 p cap W)⟩
open Go.RowKit Go.Maps Go.Sort in
theorem Tryz.maps_Keys_78 (mb : Option Nat) (W : World) : CallsIn Fence.wide 5 Tryz.prog 78 #[.map mb] W fun e w' => e = .returned (.func (.func 110) #[] #[.pointer (some ⟨W.heap.size, 0, none⟩)]) ∧ w' = W.alloc (.cells #[.map mb] 67) :=
  AnyZ.keys_in Tryz.keys78 Fence.wide 5 trivial rfl mb W
open Go.RowKit Go.Maps Go.Sort in
theorem Tryz.slices_Sorted_keys_77_78 {H : Type} (b nn : Nat) (D0 : DataW H) (R : Value → Option (DataW H × List MemPlace)) (w : World) (hown : w.ownsMap Tryz.prog 9 R b nn D0) (hmax : Maps.size D0 ≤ maxLen) (hbytes : Maps.size D0 * 16 ≤ 140737488355328) :
    CallsIn Fence.wide 5 Tryz.prog 77 #[.func (.func 110) #[] #[.pointer (some ⟨w.heap.size, 0, none⟩)]] (w.alloc (.cells #[.map (some b)] 67)) fun e w' => ∃ (v : Value) (ss : List (List UInt8)), e = .returned v ∧ ss.Perm (strKeys D0) ∧
      w'.ownsRow (w.alloc (.cells #[.map (some b)] 67)).heap.size 9 1 v ss.length ((ss.mergeSort (fun x y => decide (x ≤ y))).map encStr) ∧ (v = .slice none 0 0 ↔ ss = []) ∧ Below (w.alloc (.cells #[.map (some b)] 67)).heap.size (w.alloc (.cells #[.map (some b)] 67)) w' := by
  have hbl := hown.lt
  have hseq : SeqGives Fence.wide 2 Tryz.prog 110 #[.pointer (some ⟨w.heap.size, 0, none⟩)] encStr (fun ss => ss.Perm (strKeys D0)) (Maps.size D0) (w.alloc (.cells #[.map (some b)] 67)) :=
    AnyZ.keys_gives (ρ := Tryz.keys78_ren) { Tryz.keys78 with } Fence.wide _ trivial rfl (by omega) w.heap.size b nn D0 _ (by simp) (by simp) (by
      obtain ⟨es, clock, hb, Ft, hs, hD⟩ := hown
      exact ⟨es, clock, (Below.heap_alloc _ _ b hbl).trans hb, Ft, hs, hD⟩)
  exact AnyZ.sorted_in Tryz.sorted77 Fence.wide 5 trivial trivial trivial trivial rfl (by omega) (Tryz.sorts77 _) (enters_of Tryz.func109 (by kernel_rfl) rfl) 110 #[.pointer (some ⟨w.heap.size, 0, none⟩)] trivial (enters_of Tryz.func110 (by kernel_rfl) rfl) _ _ hmax hbytes _ hseq
open Go.RowKit Go.Maps Go.Sort in
theorem Tryz.slices_Sorted_keys_nil_77_78 (w : World) :
    CallsIn Fence.wide 5 Tryz.prog 77 #[.func (.func 110) #[] #[.pointer (some ⟨w.heap.size, 0, none⟩)]] (w.alloc (.cells #[.map none] 67)) fun e w' => ∃ (v : Value) (ss : List (List UInt8)), e = .returned v ∧ ss = [] ∧
      w'.ownsRow (w.alloc (.cells #[.map none] 67)).heap.size 9 1 v ss.length ((ss.mergeSort (fun x y => decide (x ≤ y))).map encStr) ∧ (v = .slice none 0 0 ↔ ss = []) ∧ Below (w.alloc (.cells #[.map none] 67)).heap.size (w.alloc (.cells #[.map none] 67)) w' := by
  have hseq : SeqGives Fence.wide 2 Tryz.prog 110 #[.pointer (some ⟨w.heap.size, 0, none⟩)] encStr (fun ss : List (List UInt8) => ss = []) 0 (w.alloc (.cells #[.map none] 67)) :=
    AnyZ.keys_gives_nil (ρ := Tryz.keys78_ren) { Tryz.keys78 with } Fence.wide _ trivial rfl w.heap.size _ (by simp) (by simp)
  exact AnyZ.sorted_in Tryz.sorted77 Fence.wide 5 trivial trivial trivial trivial rfl (by omega) (Tryz.sorts77 _) (enters_of Tryz.func109 (by kernel_rfl) rfl) 110 #[.pointer (some ⟨w.heap.size, 0, none⟩)] trivial (enters_of Tryz.func110 (by kernel_rfl) rfl) _ 0 (Nat.zero_le _) (by omega) _ hseq
end Go.Proofs
/- coord: names in their order: plain words. No condition. -/
namespace Go.Proofs.YtlokhhjhckiloaaGreat
open Go.RowKit Go.Maps Go.ChangeMaps Go.WideMaps Go.WideShapes Go.WideAt
set_option linter.unusedVariables false
theorem before_lt : ∀ a b : List UInt8, bytesBefore a b = true ↔ a < b
  | [], [] => by
    constructor
    · intro h; cases h
    · intro h; exact absurd h (List.not_lt_nil _)
  | [], b :: s => ⟨fun _ => List.nil_lt_cons _ _, fun _ => rfl⟩
  | a :: r, [] => by
    constructor
    · intro h; cases h
    · intro h; exact absurd h (List.not_lt_nil _)
  | a :: r, b :: s => by
    rw [show bytesBefore (a :: r) (b :: s) = (decide (a.toNat < b.toNat) || (a == b && bytesBefore r s)) from rfl, List.cons_lt_cons_iff, ← before_lt r s]
    simp only [Bool.or_eq_true, Bool.and_eq_true, decide_eq_true_eq, beq_iff_eq, UInt8.lt_iff_toNat_lt]
theorem bytes_asymm {a b : List UInt8} (h : bytesBefore a b = true) : bytesBefore b a = false := by
  cases k : bytesBefore b a with
  | false => rfl
  | true => have := bytes_trans' h k; rw [bytes_irrefl] at this; cases this
theorem le_before (a b : List UInt8) : decide (a ≤ b) = !bytesBefore b a := by
  rw [Bool.eq_iff_iff]
  simp only [decide_eq_true_eq, Bool.not_eq_true']
  rw [← List.not_lt, ← before_lt]
  simp
/-- Names that rise are as they are sorted. -/
theorem sort_names {F : List CE} (hs : F.Pairwise fun f g => bytesBefore f.name g.name = true) {ss : List (List UInt8)} (hp : ss.Perm (F.map (·.name))) : ss.mergeSort (fun x y => decide (x ≤ y)) = F.map (·.name) := by
  have hF : (F.map (·.name)).Pairwise fun a b => decide (a ≤ b) = true := by
    rw [List.pairwise_map]
    refine hs.imp fun {a b} h => ?_
    rw [le_before, bytes_asymm h]
    rfl
  refine List.Perm.eq_of_pairwise (le := fun a b => decide (a ≤ b) = true) (fun a b _ _ h k => ?_) (List.pairwise_mergeSort (fun a b c h k => ?_) (fun a b => ?_) ss) hF ((List.mergeSort_perm ss _).trans hp)
  · rw [le_before] at h k
    by_cases e : a = b
    · exact e
    · rcases bytes_total a b e with q | q
      · rw [q] at k; cases k
      · rw [q] at h; cases h
  · rw [decide_eq_true_eq] at *
    exact List.le_trans h k
  · rw [Bool.or_eq_true, decide_eq_true_eq, decide_eq_true_eq]
    exact List.le_total a b
/-- A name as a text. -/
def nmA (e : CE) : ByteArray := ⟨e.name.toArray⟩
theorem nmA_list (e : CE) : (nmA e).data.toList = e.name := by unfold nmA; simp
theorem nmA_size (e : CE) : (nmA e).size = e.name.length := by
  show e.name.toArray.size = _
  simp
def nmsV (F : List CE) : List Value := F.map fun e => .string (nmA e)
end Go.Proofs.YtlokhhjhckiloaaGreat
/- coord: all: whoever goes through the groups is told each by its name, in their order. No condition but that they are not too many. -/
namespace Go.Proofs.YtlokhhjhckiloaaGreat
open Go.RowKit Go.Maps Go.ChangeMaps Go.WideMaps Go.Sort Go.Shelf
set_option linter.unusedVariables false
/-- What a round may write: Z tells it of a heap; all else that is cells, or that lies below B, is as it was. -/
structure KpZ (Z : World → Nat → Prop) (B : Nat) (W W' : World) : Prop where
  size : W.heap.size ≤ W'.heap.size
  same : ∀ k o, W.heap[k]? = some o → (o.isCells = true ∨ k < B) → ¬ Z W k → W'.heap[k]? = some o
  z : ∀ k, Z W' k → Z W k ∨ W.heap.size ≤ k
theorem KpZ.trans {Z : World → Nat → Prop} {B : Nat} {W1 W2 W3 : World} (h : KpZ Z B W1 W2) (k : KpZ Z B W2 W3) : KpZ Z B W1 W3 := by
  refine ⟨Nat.le_trans h.size k.size, fun i o hi ho hz => ?_, fun i hi => ?_⟩
  · refine k.same i o (h.same i o hi ho hz) ho (fun h2 => ?_)
    have hlt : i < W1.heap.size := (Array.getElem?_eq_some_iff.1 hi).1
    rcases h.z i h2 with e | e
    · exact hz e
    · omega
  · have := h.size
    rcases k.z i hi with e | e
    · exact h.z i e
    · exact .inr (by omega)
theorem own_same {w w' : World} {base t size n : Nat} {v : Value} {xs : List Value} (h : w.ownsRow base t size v n xs) (hs : ∀ k, v.ownBlock = some k → w'.heap[k]? = w.heap[k]?) : w'.ownsRow base t size v n xs := by
  refine ⟨h.1, ?_⟩
  rcases h.2 with h0 | ⟨g, cap, cur, rfl, hb, hg, hr⟩
  · exact .inl h0
  · exact .inr ⟨g, cap, cur, rfl, hb, (hs g rfl).trans hg, hr⟩
theorem CoIs.same {w w' : World} {p g o : Nat} {ss rb : Int} {F : List CE} (h : CoIs w p g o ss rb F) (hp : w'.heap[p]? = w.heap[p]?) (hg : w'.heap[g]? = w.heap[g]?) : CoIs w' p g o ss rb F := by
  refine ⟨hp.trans h.box, ?_, h.rise⟩
  obtain ⟨es, clock, hb, Ft, hs, hD⟩ := h.map
  exact ⟨es, clock, hg.trans hb, Ft, hs, hD⟩
/-- Going through them under way. -/
structure ItZ (Z : World → Nat → Prop) (w3 : World) (ks : List Nat) (F : List CE) (J : List CE → World → Prop) (i : Nat) (wr : World) : Prop where
  le : i ≤ F.length
  j : J (F.take i) wr
  same : ∀ k ∈ ks, wr.heap[k]? = w3.heap[k]? ∧ ¬ Z wr k
  size : w3.heap.size ≤ wr.heap.size
theorem ab_below {β : Type} {B : Nat} {J : β → World → Prop} (hJ : AbidesFrom B J) {s : β} {W W' : World} (h : J s W) (hb : Below W.heap.size W W') : J s W' :=
  hJ s W W' none h ⟨hb.os, hb.tape, hb.output, hb.size, fun k hk _ => hb.block k hk⟩ (fun r e => by cases e)
section
variable {Z : World → Nat → Prop} {w3 wr w' : World} {ks : List Nat} {F : List CE} {J : List CE → World → Prop} {i B : Nat}
theorem ItZ.step {x : CE} (h : ItZ Z w3 ks F J i wr) (hx : F[i]? = some x) (hJ : J (F.take i ++ [x]) w') (hk : KpZ Z B wr w') (hks : ∀ k ∈ ks, ∃ o, w3.heap[k]? = some o ∧ (o.isCells = true ∨ k < B)) : ItZ Z w3 ks F J (i + 1) w' := by
  have hi := (List.getElem?_eq_some_iff.1 hx).1
  refine ⟨hi, by rw [List.take_add_one, hx]; exact hJ, fun k hkm => ?_, Nat.le_trans h.size hk.size⟩
  obtain ⟨o, ho, hoc⟩ := hks k hkm
  obtain ⟨h1, h2⟩ := h.same k hkm
  have hlt : k < wr.heap.size := Nat.lt_of_lt_of_le (Array.getElem?_eq_some_iff.1 ho).1 h.size
  refine ⟨(hk.same k o (h1.trans ho) hoc h2).trans ho.symm, fun h3 => ?_⟩
  rcases hk.z k h3 with e | e
  · exact h2 e
  · omega
end
theorem strKeys_mapC (F : List CE) : strKeys (mapC F) = F.map (·.name) := by
  unfold mapC
  show (F.map entC).map (fun p => strOf p.1) = _
  rw [List.map_map]
  rfl
theorem csorted_c {w : World} {p g o : Nat} {ss rb : Int} {F : List CE} (h : CoIs w p g o ss rb F) (hlen : F.length ≤ 1000000) :
    Calls Tryz.prog 77 #[.func (.func 110) #[] #[.pointer (some ⟨w.heap.size, 0, none⟩)]] (w.alloc (.cells #[.map (some g)] 67)) (fun e w' => ∃ v, e = .returned v ∧ w'.ownsRow (w.alloc (.cells #[.map (some g)] 67)).heap.size 9 1 v F.length (nmsV F) ∧ Below (w.alloc (.cells #[.map (some g)] 67)).heap.size (w.alloc (.cells #[.map (some g)] 67)) w') := by
  refine ((callsIn_wide (n := 5)).1 (Tryz.slices_Sorted_keys_77_78 g F.length (mapC F) tokC w h.map (by rw [mapC_size]; unfold maxLen; omega) (by rw [mapC_size]; omega))).mono ?_
  rintro e w' ⟨v, ss, rfl, hS, hrow, _, hb⟩
  rw [strKeys_mapC] at hS
  rw [sort_names h.rise hS, show ss.length = F.length by rw [hS.length_eq, List.length_map]] at hrow
  refine ⟨v, rfl, ?_, hb⟩
  have e : (F.map (·.name)).map encStr = nmsV F := by rw [List.map_map]; rfl
  rwa [e] at hrow
set_option maxHeartbeats 8000000 in
set_option maxRecDepth 100000 in
theorem all1_in (Z : World → Nat → Prop) (B n : Nat) (hn : 1 ≤ n) (l b p g o : Nat) (ss rb : Int) (F : List CE) (J Jx : List CE → World → Prop) (W : World) (hJ : AbidesFrom W.heap.size J) (hJx : AbidesFrom W.heap.size Jx)
    (hY : ∀ pre x W1, x ∈ F → J pre W1 → pre.length < F.length → YieldAt Fence.wide (n - 1) Tryz.prog l #[.string (nmA x), .pointer (some ⟨x.blk, 0, none⟩)] W1 fun e W' => (e = .returned (.bool true) ∧ J (pre ++ [x]) W' ∧ KpZ Z B W1 W') ∨ (e = .returned (.bool false) ∧ Jx (pre ++ [x]) W'))
    (hb : Box W b 23 #[.pointer (some ⟨p, 0, none⟩)]) (hC : CoIs W p g o ss rb F) (hnm : ∀ e ∈ F, e.name.length ≤ 100) (hF : F.length ≤ 1000)
    (hZ : ∀ W', Below W.heap.size W W' → ∀ k, Z W' k → Z W k ∧ k < W.heap.size) (hZb : ¬ Z W b) (hZp : ¬ Z W p) (hZg : ¬ Z W g) (hgB : g < B) (h0 : J [] W) :
    CallsIn Fence.wide n Tryz.prog 76 #[.func (.yield l) #[] #[], .pointer (some ⟨b, 0, none⟩)] W fun e W' => (∃ v, e = .returned v) ∧ ((∃ ys, ys = F ∧ J ys W') ∨ (∃ pre, pre <+: F ∧ Jx pre W')) := by
  refine callsIn_of_wp Tryz.func76 rfl trivial ?_ rfl
  simp only [Tryz.ntmps76, List.size_toArray, List.length_cons, List.length_nil, Nat.reduceAdd, Nat.reduceSub, Array.replicate_succ, Array.replicate_zero, List.push_toArray, List.append_toArray, List.nil_append, List.cons_append]
  have hbc := (hb.cell 0).trans (show _ = some (Value.pointer (some ⟨p, 0, none⟩)) from rfl)
  obtain ⟨c0, c1, c2, c3, cl⟩ := hC.cells
  have ck := fun w => (callsIn_wide (n := 5)).1 (Tryz.maps_Keys_78 (some g) w)
  have cs := csorted_c hC (by omega)
  gi_wp2_with fail
  refine ⟨trivial, (callsIn_wide.2 (ck _)).mono ?_⟩
  rintro e w2 ⟨rfl, rfl⟩
  gi_wp2_with fail
  refine ⟨trivial, (callsIn_wide.2 cs).mono ?_⟩
  rintro e w3 ⟨v, rfl, hrow, hb3⟩
  have hA2 : Below W.heap.size W (W.alloc (.cells #[.map (some g)] 67)) := (Below.refl _ _).alloc (Nat.le_refl _) _
  have hBW := hA2.trans (hb3.mono hA2.size)
  obtain ⟨A, c, rfl⟩ := own_slice hrow
  clear ck cs c0 c1 c2 c3 hbc hb3
  have HROW := Lib.hid hrow
  have HBW := Lib.hid hBW
  have HA2 := Lib.hid hA2
  have hks : ∀ k ∈ (b :: p :: g :: (Value.slice A F.length c).ownBlock.toList), ∃ o, w3.heap[k]? = some o ∧ (o.isCells = true ∨ k < B) := by
    intro k hk
    simp only [List.mem_cons, Option.mem_toList] at hk
    rcases hk with rfl | rfl | rfl | hk
    · exact ⟨_, (hb.later hBW : Box w3 _ _ _), .inl rfl⟩
    · exact ⟨_, (hC.later hBW).box, .inl rfl⟩
    · obtain ⟨es, clock, hm, _⟩ := (hC.later hBW).map
      exact ⟨_, hm, .inr hgB⟩
    · rcases hrow.2 with ⟨e, _⟩ | ⟨q, cap, cur, e, _, hq, _⟩
      · rw [e] at hk; cases hk
      · rw [e] at hk
        have : q = k := by simpa [Value.ownBlock] using hk
        subst this
        exact ⟨_, hq, .inl rfl⟩
  have h0i : ItZ Z w3 (b :: p :: g :: (Value.slice A F.length c).ownBlock.toList) F J 0 w3 := by
    refine ⟨Nat.zero_le _, ab_below hJ h0 hBW, fun k hk => ⟨rfl, fun hz => ?_⟩, Nat.le_refl _⟩
    obtain ⟨z1, z2⟩ := hZ w3 hBW k hz
    simp only [List.mem_cons, Option.mem_toList] at hk
    rcases hk with rfl | rfl | rfl | hk
    · exact hZb z1
    · exact hZp z1
    · exact hZg z1
    · have := (hrow.lt k hk).1
      simp at this
      omega
  have HI0 := Lib.hid h0i
  have HKS := Lib.hid hks
  have HBX := Lib.hid (show Box w3 b _ _ from hb.later hBW)
  have HCC := Lib.hid (hC.later hBW)
  clear hrow hBW hA2 hks h0i hb hC h0 cl hZ hZb hZp hZg
  gi_wp2_with fail
  gi_loopw [14] (fun j wr => ∃ i : Nat, j = .int .i64 i ∧ ItZ Z w3 (b :: p :: g :: (Value.slice A F.length c).ownBlock.toList) F J i wr) (fun j _ => F.length - (intOf j).toNat)
  case atStart => exact ⟨0, rfl, HI0.out⟩
  case round =>
    obtain ⟨i, rfl, hI⟩ := hrel
    clear HI0
    by_cases hi : i < F.length
    · obtain ⟨x, hx⟩ : ∃ x, F[i]? = some x := ⟨_, List.getElem?_eq_getElem hi⟩
      have hs := fun k hk => (hI.same k hk).1
      have hrow' := own_same HROW.out (fun k hk => hs k (by simp [hk]))
      have hbx' : Box wr b 23 #[.pointer (some ⟨p, 0, none⟩)] := (hs b (by simp)).trans HBX.out
      have hcc' := HCC.out.same (hs p (by simp)) (hs g (by simp))
      obtain ⟨r, rfl, hrl, _, _, hrc⟩ := own_in hrow' (by omega)
      have e0 := hrc i (.string (nmA x)) (by unfold nmsV; rw [List.getElem?_map, hx]; rfl)
      have hbc := (hbx'.cell 0).trans (show _ = some (Value.pointer (some ⟨p, 0, none⟩)) from rfl)
      obtain ⟨c0, c1, c2, c3, cl⟩ := hcc'.cells
      have hnx := hnm x (List.mem_of_getElem? hx)
      have hlk := look_any hcc' (nmA x) (by rw [nmA_size]; unfold maxLen; omega) false
      rw [if_neg (by decide), nmA_list, ofN_some hcc'.rise (List.mem_of_getElem? hx)] at hlk
      simp only [lookV, ceV] at hlk
      obtain ⟨fn, tmps, assign, body, hy, hRn⟩ := hY (F.take i) x wr (List.mem_of_getElem? hx) hI.j (by rw [List.length_take]; omega)
      have HR := Lib.hid hRn
      have HI := Lib.hid hI
      have HX := Lib.hid hx
      have hii : (i : Int) < (F.length : Int) := by omega
      have hi0 : (0 : Int) ≤ (i : Int) := by omega
      clear hRn hI hs hrow' hbx' hcc' hrc hnx
      gi_wp2_with fail
      refine HR.out.mono ?_
      rintro e W3 (⟨rfl, hJ3, hk3⟩ | ⟨rfl, hJx3⟩)
      · have HN := Lib.hid (HI.out.step HX.out hJ3 hk3 HKS.out)
        clear hJ3 hk3
        gi_wp2
        go_roundw
        case rel => exact ⟨i + 1, by go_num, HN.out⟩
        case measure => simp [intOf]; omega
      · gi_wp2
        refine bodyPost_ret (results_none rfl _ _ _) rfl ?_
        refine ⟨⟨_, rfl⟩, .inr ⟨_, ?_, hJx3⟩⟩
        exact ⟨F.drop (i + 1), by rw [show F.take i ++ [x] = F.take (i + 1) from (by rw [List.take_add_one, HX.out]; rfl), List.take_append_drop]⟩
    · have hii : i = F.length := by have := hI.le; omega
      subst hii
      have HJ := Lib.hid hI.j
      rw [List.take_length] at HJ
      have hin : ¬ (F.length : Int) < (F.length : Int) := by omega
      clear hI
      gi_wp2
      go_end0
      exact ⟨⟨_, rfl⟩, .inl HJ.out⟩
end Go.Proofs.YtlokhhjhckiloaaGreat
/- coord: Names: the names of all groups, in their order. No condition but that they are not too many. -/
namespace Go.Proofs.YtlokhhjhckiloaaGreat
open Go.RowKit Go.Maps Go.ChangeMaps Go.WideMaps Go.Sort Go.Shelf
set_option linter.unusedVariables false
attribute [local go_sem] Oper.semAt_some
set_option maxRecDepth 100000 in
theorem c_all (p : Nat) (W : World) : Calls Tryz.prog 46 #[.pointer (some ⟨p, 0, none⟩)] W (fun e w' => e = .returned (.func (Fn.func 76) #[] #[.pointer (some ⟨W.heap.size, 0, none⟩)]) ∧ w' = W.alloc (.cells #[.pointer (some ⟨p, 0, none⟩)] 23)) := by
  go_enter Tryz.func46, Tryz.ntmps46
  go_wp2_with fail
  go_ret
  exact ⟨rfl, rfl⟩
theorem strInfo' : (Tryz.prog.info? 9).map (fun i => (i.zero, i.size, i.bytes)) = some (some (.string ⟨#[]⟩), 1, 16) := by kernel_rfl
/-- One of F. -/
abbrev Nx (F : List CE) : Type := { x : CE // x ∈ F }
def vls {F : List CE} (l : List (Nx F)) : List CE := l.map (·.1)
theorem vls_snoc {F : List CE} (l : List (Nx F)) (x : Nx F) : vls (l ++ [x]) = vls l ++ [x.1] := by simp [vls]
theorem vls_len {F : List CE} (l : List (Nx F)) : (vls l).length = l.length := by simp [vls]
/-- What Names writes: its box and the row that the box names. -/
def ZN (nb : Nat) (W : World) (k : Nat) : Prop := k = nb ∨ ∃ n c, W.cell? ⟨nb, 0, none⟩ = some (.slice (some ⟨k, 0, none⟩) n c)
theorem kpZ_below {W w : World} {B nb : Nat} (h : Below W.heap.size W w) (hn : nb < W.heap.size) : KpZ (ZN nb) B W w := by
  refine ⟨h.size, fun k o hk _ _ => ?_, fun k hz => .inl ?_⟩
  · exact (h.block k (Array.getElem?_eq_some_iff.1 hk).1).trans hk
  · rcases hz with e | ⟨n, c, e⟩
    · exact .inl e
    · exact .inr ⟨n, c, (World.cell?_of_block (a := ⟨nb, 0, none⟩) (h.block nb hn)).symm.trans e⟩
theorem kpZ_put {B nb S : Nat} (hn : nb < S) (hB : B ≤ S) (W : World) (l : Nat) (o o' : Obj) (hl : S ≤ l) (ho : W.heap[l]? = some o) (hc : o.isCells = false) : KpZ (ZN nb) B W (W.putObj l o') := by
  refine ⟨by simp [World.putObj], fun k u hk hu _ => ?_, fun k hz => .inl ?_⟩
  · refine (World.putObj_heap_other fun e => ?_).trans hk
    subst e
    rw [ho] at hk; cases hk
    rcases hu with h | h
    · rw [h] at hc; cases hc
    · omega
  · rcases hz with e | ⟨n, c, e⟩
    · exact .inl e
    · exact .inr ⟨n, c, (World.cell?_of_block (a := ⟨nb, 0, none⟩) (World.putObj_heap_other (show nb ≠ l from by omega))).symm.trans e⟩
theorem appendedZ {w2 w3 : World} {n₁ B nb : Nat} {t e : TypeId} {size : Nat} {v : Value} {k g' m cap : Nat} {xs : List Value} {tmp : Obj}
    (hv : Boxed w2 nb t v) (hrow : w2.ownsRow n₁ e size v k xs) (hgrow : (w2.alloc tmp).grownBy w3 v.ownBlock) (hg : v.ownBlock = some g' ∨ g' = (w2.alloc tmp).heap.size) (hx1 : Boxed w3 nb t v) :
    KpZ (ZN nb) B w2 (w3.setCell ⟨nb, 0, none⟩ (.slice (some ⟨g', 0, none⟩) m cap)) := by
  have hsz : w2.heap.size ≤ w3.heap.size := by have := hgrow.size; rw [World.size_alloc] at this; omega
  have hown : ∀ q, v.ownBlock = some q → ZN nb w2 q := by
    intro q hq
    rcases hrow.2 with ⟨rfl, _⟩ | ⟨g, c, cur, rfl, _, _, _⟩
    · simp [Value.ownBlock] at hq
    · obtain rfl : g = q := by simpa [Value.ownBlock] using hq
      exact .inr ⟨_, _, hv.cell⟩
  refine ⟨by rw [World.size_setCell]; exact hsz, fun q o hq _ hz => ?_, fun q hz => ?_⟩
  · have hlt := (Array.getElem?_eq_some_iff.1 hq).1
    have h1 : (w3.setCell ⟨nb, 0, none⟩ (.slice (some ⟨g', 0, none⟩) m cap)).heap[q]? = w3.heap[q]? := Below.heap_setCell w3 ⟨nb, 0, none⟩ _ q (fun e => hz (.inl e))
    have h2 : w3.heap[q]? = (w2.alloc tmp).heap[q]? := hgrow.block q (by simp; omega) (fun e => hz (hown q e.symm))
    exact h1.trans (h2.trans ((Below.heap_alloc w2 tmp q (by omega)).trans hq))
  · rcases hz with e | ⟨n, c, e⟩
    · exact .inl (.inl e)
    · rw [(hx1.set _).cell] at e
      injection e with e; injection e with e1 e2 e3
      injection e1 with e1; injection e1 with e1
      subst e1
      rcases hg with h | h
      · exact .inl (hown _ h)
      · right; rw [h, World.size_alloc]; omega
theorem oper_append_l {F : Fence} {n : Nat} {P : Program} (w : World) {o : Oper} {a : Act} {Q : Exit → Act → World → Prop} {K : Act → World → Prop}
    (s x : Operand) (t : TypeId) (hop : o.op = Op.call { callee := Callee.builtin Builtin.append, args := #[s, x], argTypes := #[t, t] })
    (base : Nat) (e : TypeId) (i : TypeInfo) (z : Value) (size bytes : Nat) (h1 : P.underlying t = some (.slice e)) (h2 : P.info? e = some i) (h3 : i.zero = some z) (h4 : i.size = size) (h5 : i.bytes = bytes) (h6 : z.cells.size = size) (h7 : 0 < size)
    (v : Value) (k : Nat) (xs : List Value) (hs : a.eval s = v) (hown : w.ownsRow base e size v k xs) (ad : Addr) (m c : Nat) (news : List Value) (hx : a.eval x = .slice (some ad) m c) (hn : news.length = m * size)
    (hc : ∀ j u, news[j]? = some u → w.cell? (ad.add j) = some u) (h1c : ∀ u ∈ news, u.oneCell' = true) (hm : 0 < m) (b1 : k + m ≤ maxLen) (b2 : (k + m) * bytes ≤ 140737488355328) (b3 : base ≤ w.heap.size)
    (hK : ∀ g cap w', w'.ownsRow base e size (.slice (some ⟨g, 0, none⟩) (k + m) cap) (k + m) (xs ++ news) → w.grownBy w' v.ownBlock → (v.ownBlock = some g ∨ g = w.heap.size) → K (a.put o.dst (.slice (some ⟨g, 0, none⟩) (k + m) cap)) w') : o.wpIn F n P a w K Q := by
  obtain ⟨g, cap, w', hrun, r1, r2, r3, _⟩ := run_append_lies (P := P) w t o.type base e i z size bytes h1 h2 h3 h4 h5 h6 h7 v k xs hown ad m c news hn hc h1c hm b1 b2 b3 w.heap.size rfl
  unfold Oper.wpIn
  refine ⟨?_, ?_⟩
  · simp [Oper.about, hop, resolve, Target.leads, Sem.run_pure]
  · rw [Oper.semAt_plain F _ _ (by rw [hop]; intro c hc'; cases hc')]
    simp [execOp, hop, resolve, invoke, builtin, hs, hx, hrun, Result.andThen]
    exact hK g cap w' r1 r2 r3
theorem keeps_below {W w : World} (h : Below W.heap.size W w) : KeepsOthers W w := KeepsOthers.of_grownBy (row := none) ⟨h.os, h.tape, h.output, h.size, fun k hk _ => h.block k hk⟩ (fun j o ej => by cases ej)
theorem all_stops {F : List CE} {p g o b nb B : Nat} {ss rb : Int} (n : Nat) (hn : 1 ≤ n) (w : World) (hb : Box w b 23 #[.pointer (some ⟨p, 0, none⟩)]) (hC : CoIs w p g o ss rb F) (hnm : ∀ e ∈ F, e.name.length ≤ 100) (hF : F.length ≤ 1000)
    (hz : w.cell? ⟨nb, 0, none⟩ = some (.slice none 0 0)) (hnb : nb < w.heap.size) (h1 : nb ≠ b) (h2 : nb ≠ p) (h3 : nb ≠ g) (hgB : g < B) :
    SeqStopsK Fence.wide n Tryz.prog 76 #[.pointer (some ⟨b, 0, none⟩)] (fun x : Nx F => #[.string (nmA x.1), .pointer (some ⟨x.1.blk, 0, none⟩)]) (KpZ (ZN nb) B) (fun ys => vls ys = F) (fun pre => vls pre <+: F) F.length w :=
  fun l J Jx W hW hJ hJx hY h0 => by
    have hz' : W.cell? ⟨nb, 0, none⟩ = some (.slice none 0 0) := (World.cell?_of_block (a := ⟨nb, 0, none⟩) (hW.block nb hnb)).trans hz
    have hno : ∀ k, ZN nb W k → k = nb := by
      rintro k (e | ⟨n, c, e⟩)
      · exact e
      · rw [hz'] at e; cases e
    refine (all1_in (ZN nb) B n hn l b p g o ss rb F (fun ys W => ∃ zs : List (Nx F), vls zs = ys ∧ J zs W) (fun ys W => ∃ zs : List (Nx F), vls zs = ys ∧ Jx zs W) W ?_ ?_ ?_ (hb.later hW) (hC.later hW) hnm hF ?_
      (fun h => h1 (hno _ h).symm) (fun h => h2 (hno _ h).symm) (fun h => h3 (hno _ h).symm) hgB ⟨[], rfl, h0⟩).mono ?_
    · rintro s A B row ⟨zs, hz, hj⟩ hg hr
      exact ⟨zs, hz, hJ zs A B row hj hg hr⟩
    · rintro s A B row ⟨zs, hz, hj⟩ hg hr
      exact ⟨zs, hz, hJx zs A B row hj hg hr⟩
    · rintro pre x W1 hx ⟨zs, rfl, hj⟩ hlen
      rw [vls_len] at hlen
      refine (hY zs ⟨x, hx⟩ W1 hj hlen).mono ?_
      rintro e W' (⟨he, h1, h2⟩ | ⟨he, h1⟩)
      · exact .inl ⟨he, ⟨_, vls_snoc _ _, h1⟩, h2⟩
      · exact .inr ⟨he, ⟨_, vls_snoc _ _, h1⟩⟩
    · intro W' hW' k hk
      have e : W'.cell? ⟨nb, 0, none⟩ = W.cell? ⟨nb, 0, none⟩ := World.cell?_of_block (a := ⟨nb, 0, none⟩) (hW'.block nb (by have := hW.size; omega))
      have hk' : ZN nb W k := by
        rcases hk with h | ⟨n, c, h⟩
        · exact .inl h
        · exact .inr ⟨n, c, e.symm.trans h⟩
      exact ⟨hk', by rw [hno k hk']; have := hW.size; omega⟩
    · rintro e W' ⟨he, ⟨ys, rfl, zs, hz, hj⟩ | ⟨pre, hp, zs, hz, hj⟩⟩
      · exact ⟨he, .inl ⟨zs, hz, hj⟩⟩
      · exact ⟨he, .inr ⟨zs, by show vls zs <+: _; rw [hz]; exact hp, hj⟩⟩
/-- What stands in the box of Names' result behind some of them. -/
def NAt (F : List CE) (w : World) (pre : List (Nx F)) (W : World) : Prop :=
  (∃ v, Boxed W w.heap.size 31 v ∧ W.ownsRow w.heap.size 9 1 v pre.length (nmsV (vls pre)) ∧ True) ∧ Below w.heap.size w W ∧ w.heap.size + 2 ≤ W.heap.size
theorem nAt_own (F : List CE) (w : World) (B : Nat) (hB : w.heap.size ≤ B) : OwnFrom B (NAt F w) :=
  OwnFrom.and (Own.from (holdsRow_own w.heap.size w.heap.size 31 9 1 (fun pre : List (Nx F) => pre.length) (fun pre => nmsV (vls pre)) (fun _ _ => True)) _) (OwnFrom.and (ownFrom_below (Nat.le_refl _) hB) (fun s A B row hs hg hr => Nat.le_trans hs hg.size))
set_option maxHeartbeats 4000000 in
set_option maxRecDepth 100000 in
theorem names_in {p g o : Nat} {ss rb : Int} {F : List CE} (w : World) (hC : CoIs w p g o ss rb F) (hnm : ∀ e ∈ F, e.name.length ≤ 100) (hF : F.length ≤ 1000) :
    CallsIn Fence.wide 9 Tryz.prog 21 #[.pointer (some ⟨p, 0, none⟩)] w fun e W' => ∃ v, e = .returned v ∧ W'.ownsRow w.heap.size 9 1 v F.length (nmsV F) ∧ Below w.heap.size w W' := by
  have hpl : p < w.heap.size := (Array.getElem?_eq_some_iff.1 hC.box).1
  have hgl : g < w.heap.size := by obtain ⟨es, clock, hm, _⟩ := hC.map; exact (Array.getElem?_eq_some_iff.1 hm).1
  refine callsIn_of_wp_marks Tryz.func21 rfl trivial ?_ rfl
  simp only [Tryz.ntmps21, List.size_toArray, List.length_cons, List.length_nil, Nat.reduceAdd, Nat.reduceSub, Array.replicate_succ, Array.replicate_zero, List.push_toArray, List.append_toArray, List.nil_append, List.cons_append]
  gi_wp2_with fail
  refine ⟨trivial, (callsIn_wide.2 (c_all p _)).mono ?_⟩
  rintro e w' ⟨rfl, rfl⟩
  gi_wp2_with fail
  obtain ⟨W0, hW0⟩ : ∃ W0, (w.alloc (.cells #[.slice none 0 0] 31)).alloc (.cells #[.pointer (some ⟨p, 0, none⟩)] 23) = W0 := ⟨_, rfl⟩
  have hs0 : W0.heap.size = w.heap.size + 2 := by rw [← hW0]; simp
  have hB0 : Boxed W0 w.heap.size 31 (.slice none 0 0) := by rw [← hW0]; exact (Boxed.new w _ _).alloc _
  have hB1 : Box W0 (w.heap.size + 1) 23 #[.pointer (some ⟨p, 0, none⟩)] := by
    rw [← hW0]
    have := Box.new (w.alloc (.cells #[.slice none 0 0] 31)) 23 #[.pointer (some ⟨p, 0, none⟩)]
    rwa [World.size_alloc] at this
  have hBW : Below w.heap.size w W0 := by rw [← hW0]; exact ((Below.refl _ w).alloc (Nat.le_refl _) _).alloc (by simp) _
  try rw [hW0]
  clear hW0
  refine wpIn_rangeFunc_ownF rfl (by omega) (gf := 76) (lb := #[.pointer (some ⟨w.heap.size + 1, 0, none⟩)]) rfl trivial (enters_of Tryz.func76 (by kernel_rfl) rfl)
    (all_stops (nb := w.heap.size) (B := w.heap.size) 8 (by omega) W0 hB1 (hC.later hBW) hnm hF hB0.cell (by omega) (by omega) (by omega) (by omega) hgl) KpZ.trans (fun W l o o' h1 h2 h3 h4 => kpZ_put (S := W0.heap.size) (by omega) (by omega) W l o o' h1 h2 h3) (Below.refl _ _) (fun _ => rfl)
    (NAt F w) (fun _ _ _ => False) (nAt_own F w _ (by omega)) (fun _ _ _ _ _ hs _ _ => hs) ⟨⟨_, hB0, World.ownsRow_nil _ _ _ _, trivial⟩, hBW, by omega⟩
    (fun x : Nx F => { tmps := #[.pointer (some ⟨p, 0, none⟩), undef, .slice none 0 0, .pointer (some ⟨w.heap.size, 0, none⟩), .string (nmA x.1), .pointer (some ⟨p, 0, none⟩), .func (.func 76) #[] #[.pointer (some ⟨w.heap.size + 1, 0, none⟩)], .string (nmA x.1), .pointer (some ⟨x.1.blk, 0, none⟩), undef, undef, undef, undef, undef, undef], defers := [] }) ?assign ?body ?done ?stop
  case assign =>
    intro l x W K hK
    gi_wp2
    exact hK
  case body =>
    rintro l pre ⟨x, hx⟩ W ⟨⟨v, hv, hr, _⟩, hB, hsz⟩ hlen
    obtain ⟨i0, hi, hz0, hz1, hz2⟩ := info_parts strInfo'
    have hvl := hv.lt
    have hvc := hv.cell
    have hfol : Tryz.prog.follows .mixedOrders = true := by kernel_rfl
    gi_wp2_with fail
    refine wpIn_region_any hfol ?_
    have hxl : (nmA x).size ≤ 281474976710656 := by rw [nmA_size]; have := hnm x hx; omega
    have hbd0 : pre.length < 1000 := by omega
    have hbd1 : pre.length + 1 ≤ maxLen := by unfold maxLen; omega
    have hbd2 : (pre.length + 1) * 16 ≤ 140737488355328 := by omega
    have hdr : Below W.heap.size W { W with drawn := W.drawn + 1 } := (Below.refl W.heap.size W).drew
    refine wpAnyIn_ready (rs := [0, 1]) (by kernel_rfl) (by simp) ?_
    refine AllReadyIn.cons rfl (fun K hK => ?_) (AllReadyIn.cons rfl (fun K hK => ?_) AllReadyIn.nil)
    · go_simp
      refine hK _ _ ?_
      clear hK K
      refine wpAnyIn_ready (rs := [1]) (by kernel_rfl) (by simp) ?_
      refine AllReadyIn.cons rfl (fun K hK => ?_) AllReadyIn.nil
      · go_simp
        refine hK _ _ ?_
        clear hK K
        refine wpAnyIn_ready (rs := [2]) (by kernel_rfl) (by simp) ?_
        refine AllReadyIn.cons rfl (fun K hK => ?_) AllReadyIn.nil
        · go_simp
          refine ⟨trivial, ?_⟩
          (gi_at_call 41; refine (CallsIn.inRound l (callsIn_wide.2 (clone_c (nmA x) _ hxl))).mono ?_; rintro e w2 ⟨rfl, hb2⟩)
          have hb2' : Below W.heap.size W w2 := hdr.trans hb2
          have hv2 : Boxed w2 w.heap.size 31 v := (hb2'.block _ hvl).trans hv
          have hvc2 := hv2.cell
          have hvc3 := (hv2.alloc (.cells #[.string (nmA x)] 9)).cell
          have hr2 : w2.ownsRow w.heap.size 9 1 v pre.length (nmsV (vls pre)) := own_below hr hb2'
          refine hK _ _ ?_
          clear hK K
          refine wpAnyIn_ready (rs := [3]) (by kernel_rfl) (by simp) ?_
          refine AllReadyIn.cons rfl (fun K hK => ?_) AllReadyIn.nil
          · go_simp
            refine hK _ _ ?_
            clear hK K
            refine wpAnyIn_ready (rs := [4]) (by kernel_rfl) (by simp) ?_
            refine AllReadyIn.cons rfl (fun K hK => ?_) AllReadyIn.nil
            rw [if_pos (show Region.wanted _ _ = true from rfl)]
            refine oper_append_l _ (.tmp 9) (.tmp 12) 31 rfl w.heap.size 9 i0 (.string ⟨#[]⟩) 1 16 Tryz.underlying31 hi hz0 hz1 hz2 rfl (by decide) v pre.length (nmsV (vls pre)) rfl (hr2.alloc _) ⟨w2.heap.size, 0, none⟩ 1 1 [.string (nmA x)] rfl rfl (cell_one_new _ _ _) (by simp [Value.oneCell']) (by decide) hbd1 hbd2 (by have := hb2'.size; rw [World.size_alloc]; omega) ?_
            intro g' cap' w3 hown' hgrow hg5
            have hsz2 := hb2'.size
            obtain ⟨hx1, hx2, hx3, hx4, hx6⟩ := Boxed.appended (n₀ := w.heap.size) hv2 (by decide) hr2 (by omega) (by omega) hown' hgrow
            have hx5 := appendedZ (B := w.heap.size) hv2 hr2 hgrow hg5 hx1 (m := pre.length + 1) (cap := cap')
            have hc1 := hx1.cell
            have hf1 := hx1.frozen
            refine hK _ _ ?_
            clear hK K
            refine wpAnyIn_ready (rs := [5]) (by kernel_rfl) (by simp) ?_
            refine AllReadyIn.cons rfl (fun K hK => ?_) AllReadyIn.nil
            go_simp
            refine hK _ _ ?_
            clear hK K
            refine wpAnyIn_done (by kernel_rfl) ?_ _
            gi_wp2
            have e9 : nmsV (vls (pre ++ [(⟨x, hx⟩ : Nx F)])) = nmsV (vls pre) ++ [.string (nmA x)] := by simp [vls, nmsV]
            have hkp := KpZ.trans (kpZ_below (B := w.heap.size) (nb := w.heap.size) hb2' (by omega)) hx5
            exact ⟨(keeps_below hb2').trans hx4, hkp, ⟨_, hx2, by rw [e9, List.length_append]; exact hx3, trivial⟩, hB.trans ((hb2'.mono (by omega)).trans hx6), by have := hkp.size; omega⟩
    · go_simp
      refine hK _ _ ?_
      clear hK K
      refine wpAnyIn_ready (rs := [0, 2]) (by kernel_rfl) (by simp) ?_
      refine AllReadyIn.cons rfl (fun K hK => ?_) (AllReadyIn.cons rfl (fun K hK => ?_) AllReadyIn.nil)
      · go_simp
        refine hK _ _ ?_
        clear hK K
        refine wpAnyIn_ready (rs := [2]) (by kernel_rfl) (by simp) ?_
        refine AllReadyIn.cons rfl (fun K hK => ?_) AllReadyIn.nil
        · go_simp
          refine ⟨trivial, ?_⟩
          (gi_at_call 41; refine (CallsIn.inRound l (callsIn_wide.2 (clone_c (nmA x) _ hxl))).mono ?_; rintro e w2 ⟨rfl, hb2⟩)
          have hb2' : Below W.heap.size W w2 := hdr.trans hb2
          have hv2 : Boxed w2 w.heap.size 31 v := (hb2'.block _ hvl).trans hv
          have hvc2 := hv2.cell
          have hvc3 := (hv2.alloc (.cells #[.string (nmA x)] 9)).cell
          have hr2 : w2.ownsRow w.heap.size 9 1 v pre.length (nmsV (vls pre)) := own_below hr hb2'
          refine hK _ _ ?_
          clear hK K
          refine wpAnyIn_ready (rs := [3]) (by kernel_rfl) (by simp) ?_
          refine AllReadyIn.cons rfl (fun K hK => ?_) AllReadyIn.nil
          · go_simp
            refine hK _ _ ?_
            clear hK K
            refine wpAnyIn_ready (rs := [4]) (by kernel_rfl) (by simp) ?_
            refine AllReadyIn.cons rfl (fun K hK => ?_) AllReadyIn.nil
            rw [if_pos (show Region.wanted _ _ = true from rfl)]
            refine oper_append_l _ (.tmp 9) (.tmp 12) 31 rfl w.heap.size 9 i0 (.string ⟨#[]⟩) 1 16 Tryz.underlying31 hi hz0 hz1 hz2 rfl (by decide) v pre.length (nmsV (vls pre)) rfl (hr2.alloc _) ⟨w2.heap.size, 0, none⟩ 1 1 [.string (nmA x)] rfl rfl (cell_one_new _ _ _) (by simp [Value.oneCell']) (by decide) hbd1 hbd2 (by have := hb2'.size; rw [World.size_alloc]; omega) ?_
            intro g' cap' w3 hown' hgrow hg5
            have hsz2 := hb2'.size
            obtain ⟨hx1, hx2, hx3, hx4, hx6⟩ := Boxed.appended (n₀ := w.heap.size) hv2 (by decide) hr2 (by omega) (by omega) hown' hgrow
            have hx5 := appendedZ (B := w.heap.size) hv2 hr2 hgrow hg5 hx1 (m := pre.length + 1) (cap := cap')
            have hc1 := hx1.cell
            have hf1 := hx1.frozen
            refine hK _ _ ?_
            clear hK K
            refine wpAnyIn_ready (rs := [5]) (by kernel_rfl) (by simp) ?_
            refine AllReadyIn.cons rfl (fun K hK => ?_) AllReadyIn.nil
            go_simp
            refine hK _ _ ?_
            clear hK K
            refine wpAnyIn_done (by kernel_rfl) ?_ _
            gi_wp2
            have e9 : nmsV (vls (pre ++ [(⟨x, hx⟩ : Nx F)])) = nmsV (vls pre) ++ [.string (nmA x)] := by simp [vls, nmsV]
            have hkp := KpZ.trans (kpZ_below (B := w.heap.size) (nb := w.heap.size) hb2' (by omega)) hx5
            exact ⟨(keeps_below hb2').trans hx4, hkp, ⟨_, hx2, by rw [e9, List.length_append]; exact hx3, trivial⟩, hB.trans ((hb2'.mono (by omega)).trans hx6), by have := hkp.size; omega⟩
      · go_simp
        refine ⟨trivial, ?_⟩
        (gi_at_call 41; refine (CallsIn.inRound l (callsIn_wide.2 (clone_c (nmA x) _ hxl))).mono ?_; rintro e w2 ⟨rfl, hb2⟩)
        have hb2' : Below W.heap.size W w2 := hdr.trans hb2
        have hv2 : Boxed w2 w.heap.size 31 v := (hb2'.block _ hvl).trans hv
        have hvc2 := hv2.cell
        have hvc3 := (hv2.alloc (.cells #[.string (nmA x)] 9)).cell
        have hr2 : w2.ownsRow w.heap.size 9 1 v pre.length (nmsV (vls pre)) := own_below hr hb2'
        refine hK _ _ ?_
        clear hK K
        refine wpAnyIn_ready (rs := [0, 3]) (by kernel_rfl) (by simp) ?_
        refine AllReadyIn.cons rfl (fun K hK => ?_) (AllReadyIn.cons rfl (fun K hK => ?_) AllReadyIn.nil)
        · go_simp
          refine hK _ _ ?_
          clear hK K
          refine wpAnyIn_ready (rs := [3]) (by kernel_rfl) (by simp) ?_
          refine AllReadyIn.cons rfl (fun K hK => ?_) AllReadyIn.nil
          · go_simp
            refine hK _ _ ?_
            clear hK K
            refine wpAnyIn_ready (rs := [4]) (by kernel_rfl) (by simp) ?_
            refine AllReadyIn.cons rfl (fun K hK => ?_) AllReadyIn.nil
            rw [if_pos (show Region.wanted _ _ = true from rfl)]
            refine oper_append_l _ (.tmp 9) (.tmp 12) 31 rfl w.heap.size 9 i0 (.string ⟨#[]⟩) 1 16 Tryz.underlying31 hi hz0 hz1 hz2 rfl (by decide) v pre.length (nmsV (vls pre)) rfl (hr2.alloc _) ⟨w2.heap.size, 0, none⟩ 1 1 [.string (nmA x)] rfl rfl (cell_one_new _ _ _) (by simp [Value.oneCell']) (by decide) hbd1 hbd2 (by have := hb2'.size; rw [World.size_alloc]; omega) ?_
            intro g' cap' w3 hown' hgrow hg5
            have hsz2 := hb2'.size
            obtain ⟨hx1, hx2, hx3, hx4, hx6⟩ := Boxed.appended (n₀ := w.heap.size) hv2 (by decide) hr2 (by omega) (by omega) hown' hgrow
            have hx5 := appendedZ (B := w.heap.size) hv2 hr2 hgrow hg5 hx1 (m := pre.length + 1) (cap := cap')
            have hc1 := hx1.cell
            have hf1 := hx1.frozen
            refine hK _ _ ?_
            clear hK K
            refine wpAnyIn_ready (rs := [5]) (by kernel_rfl) (by simp) ?_
            refine AllReadyIn.cons rfl (fun K hK => ?_) AllReadyIn.nil
            go_simp
            refine hK _ _ ?_
            clear hK K
            refine wpAnyIn_done (by kernel_rfl) ?_ _
            gi_wp2
            have e9 : nmsV (vls (pre ++ [(⟨x, hx⟩ : Nx F)])) = nmsV (vls pre) ++ [.string (nmA x)] := by simp [vls, nmsV]
            have hkp := KpZ.trans (kpZ_below (B := w.heap.size) (nb := w.heap.size) hb2' (by omega)) hx5
            exact ⟨(keeps_below hb2').trans hx4, hkp, ⟨_, hx2, by rw [e9, List.length_append]; exact hx3, trivial⟩, hB.trans ((hb2'.mono (by omega)).trans hx6), by have := hkp.size; omega⟩
        · go_simp
          refine hK _ _ ?_
          clear hK K
          refine wpAnyIn_ready (rs := [0]) (by kernel_rfl) (by simp) ?_
          refine AllReadyIn.cons rfl (fun K hK => ?_) AllReadyIn.nil
          · go_simp
            refine hK _ _ ?_
            clear hK K
            refine wpAnyIn_ready (rs := [4]) (by kernel_rfl) (by simp) ?_
            refine AllReadyIn.cons rfl (fun K hK => ?_) AllReadyIn.nil
            rw [if_pos (show Region.wanted _ _ = true from rfl)]
            refine oper_append_l _ (.tmp 9) (.tmp 12) 31 rfl w.heap.size 9 i0 (.string ⟨#[]⟩) 1 16 Tryz.underlying31 hi hz0 hz1 hz2 rfl (by decide) v pre.length (nmsV (vls pre)) rfl (hr2.alloc _) ⟨w2.heap.size, 0, none⟩ 1 1 [.string (nmA x)] rfl rfl (cell_one_new _ _ _) (by simp [Value.oneCell']) (by decide) hbd1 hbd2 (by have := hb2'.size; rw [World.size_alloc]; omega) ?_
            intro g' cap' w3 hown' hgrow hg5
            have hsz2 := hb2'.size
            obtain ⟨hx1, hx2, hx3, hx4, hx6⟩ := Boxed.appended (n₀ := w.heap.size) hv2 (by decide) hr2 (by omega) (by omega) hown' hgrow
            have hx5 := appendedZ (B := w.heap.size) hv2 hr2 hgrow hg5 hx1 (m := pre.length + 1) (cap := cap')
            have hc1 := hx1.cell
            have hf1 := hx1.frozen
            refine hK _ _ ?_
            clear hK K
            refine wpAnyIn_ready (rs := [5]) (by kernel_rfl) (by simp) ?_
            refine AllReadyIn.cons rfl (fun K hK => ?_) AllReadyIn.nil
            go_simp
            refine hK _ _ ?_
            clear hK K
            refine wpAnyIn_done (by kernel_rfl) ?_ _
            gi_wp2
            have e9 : nmsV (vls (pre ++ [(⟨x, hx⟩ : Nx F)])) = nmsV (vls pre) ++ [.string (nmA x)] := by simp [vls, nmsV]
            have hkp := KpZ.trans (kpZ_below (B := w.heap.size) (nb := w.heap.size) hb2' (by omega)) hx5
            exact ⟨(keeps_below hb2').trans hx4, hkp, ⟨_, hx2, by rw [e9, List.length_append]; exact hx3, trivial⟩, hB.trans ((hb2'.mono (by omega)).trans hx6), by have := hkp.size; omega⟩
  case done =>
    rintro D ys W hD hS ⟨⟨v, hv, hr, _⟩, hB, hsz⟩ hK
    have hvc := hv.cell
    gi_wp2
    refine ⟨by simp, .inl ⟨_, _, rfl, run_takeDeferred hK, ?_⟩⟩
    have hl2 : ys.length = F.length := by rw [← vls_len ys, show vls ys = F from hS]
    rw [hl2, show vls ys = F from hS] at hr
    refine ⟨_, results_tmp rfl _ _ _, _, rfl, ?_, ?_⟩
    · exact ownsRow_putObj hr _ hK rfl
    · exact hB.trans (belowK_b (w := w) (Nat.le_refl _) W D _ _ (by omega) hK rfl rfl)
  case stop =>
    rintro D c pre W _ _ h _
    exact h.elim
theorem cnames_c {p g o : Nat} {ss rb : Int} {F : List CE} (w : World) (hC : CoIs w p g o ss rb F) (hnm : ∀ e ∈ F, e.name.length ≤ 100) (hF : F.length ≤ 1000) :
    Calls Tryz.prog 21 #[.pointer (some ⟨p, 0, none⟩)] w fun e W' => ∃ v, e = .returned v ∧ W'.ownsRow w.heap.size 9 1 v F.length (nmsV F) ∧ Below w.heap.size w W' := callsIn_wide.1 (names_in w hC hnm hF)
end Go.Proofs.YtlokhhjhckiloaaGreat
/- coord: findOrMake, Join, by contracts. No condition but that calls are not too many. -/
namespace Go.Proofs.YtlokhhjhckiloaaGreat
open Go.RowKit Go.Maps Go.ChangeMaps Go.WideMaps
set_option linter.unusedVariables false
section
variable {W w w' : World} {p g o og : Nat} {k ss rb : Int} {F : List CE} {V : Nat → Value} {D : Nat → GD} {O : List Of.KE}
theorem cfm_some (h : CO W w p g o og k ss rb F F V D O) (s : ByteArray) (hs : s.size ≤ maxLen) {e0 : CE} (hf : ofN F s.data.toList = some e0) : Calls Tryz.prog 39 #[.pointer (some ⟨p, 0, none⟩), .string s] w (fun e w' => e = .returned (.tuple #[.pointer (some ⟨e0.blk, 0, none⟩), .int .i64 0]) ∧ w' = w) := by
  have hl := look_any h.is s hs true
  obtain ⟨c0, c1, c2, c3, cl⟩ := h.is.cells
  rw [if_pos rfl, hf] at hl
  simp only [lookV, ceV, Option.isSome] at hl
  go_enter Tryz.func39, Tryz.ntmps39
  go_wp2_with fail
  go_ret2
  exact ⟨rfl, rfl⟩
theorem cfm_full (h : CO W w p g o og k ss rb F F V D O) (s : ByteArray) (hs : s.size ≤ maxLen) (hf : ofN F s.data.toList = none) (h20 : 20 ≤ F.length) : Calls Tryz.prog 39 #[.pointer (some ⟨p, 0, none⟩), .string s] w (fun e w' => e = .returned (.tuple #[.pointer none, .int .i64 5]) ∧ w' = w) := by
  have hl := look_any h.is s hs true
  obtain ⟨c0, c1, c2, c3, cl⟩ := h.is.cells
  rw [if_pos rfl, hf] at hl
  simp only [lookV, Option.isSome] at hl
  have hn := fun ty => len_run h.is ty
  have h2 : (20 : Int) ≤ (F.length : Int) := by omega
  go_enter Tryz.func39, Tryz.ntmps39
  go_wp2_with fail
  go_ret2
  exact ⟨rfl, rfl⟩
theorem wit_ok {s r : Int} (hs : 1 ≤ s ∧ s ≤ 100000) (hr : 1 ≤ r ∧ r ≤ 100000) : (witB s 1 100000 && witB r 1 100000) = true := by
  unfold witB
  rw [decide_eq_true hs.1, decide_eq_true hs.2, decide_eq_true hr.1, decide_eq_true hr.2]
  rfl
theorem cfm_new (h : CO W w p g o og k ss rb F F V D O) (s : ByteArray) (hs : s.size ≤ maxLen) (hf : ofN F s.data.toList = none) (h20 : F.length < 20) : Calls Tryz.prog 39 #[.pointer (some ⟨p, 0, none⟩), .string s] w (fun e w' => e = .returned (.tuple #[.pointer (some ⟨w.heap.size, 0, none⟩), .int .i64 0]) ∧ w' = w.drew.alloc (.cells #[.int .i64 0, .int .i64 0, .int .i64 0, .int .i64 0, .slice none 0 0, .int .i64 ss, .int .i64 rb] 109)) := by
  have hl := look_any h.is s hs true
  obtain ⟨c0, c1, c2, c3, cl⟩ := h.is.cells
  rw [if_pos rfl, hf] at hl
  simp only [lookV, Option.isSome] at hl
  have hn := fun ty => len_run h.is ty
  have h2 : ¬ (20 : Int) ≤ (F.length : Int) := by omega
  have d0 := (((Below.refl w.heap.size w).drew.alloc (Nat.le_refl _) (.cells #[.int .i64 0, .int .i64 0, .int .i64 0, .int .i64 0, .slice none 0 0, .int .i64 ss, .int .i64 rb] 109)).cell (p := ⟨p, 0, none⟩) cl).trans c0
  have d1 := (((Below.refl w.heap.size w).drew.alloc (Nat.le_refl _) (.cells #[.int .i64 0, .int .i64 0, .int .i64 0, .int .i64 0, .slice none 0 0, .int .i64 ss, .int .i64 rb] 109)).cell (p := ⟨p, 1, none⟩) cl).trans c1
  have cn := new_ok ss rb (wit_ok h.ss h.rb) w.drew
  go_enter Tryz.func39, Tryz.ntmps39
  go_wp2_with fail
  go_region_held3 (fun wq => wq.cell? ⟨p, 0, none⟩ = some (.int .i64 ss) ∧ wq.cell? ⟨p, 1, none⟩ = some (.int .i64 rb))
    (first | exact ⟨c0, c1⟩ | exact ⟨d0, d1⟩)
    (first | ((with_reducible refine cn.mono ?_); rintro en w1 ⟨rfl, rfl⟩))
  go_wp2_with fail
  go_ret2
  exact ⟨rfl, rfl⟩
end
/-- What Join tells: is there an error? -/
def joE (s : ByteArray) (m : Int) (T : List ByteArray) (now : Int) (F : List CE) (D : Nat → GD) (ss rb : Int) : Int :=
  if s.size < 1 ∨ 100 < s.size then 1 else match gv F D s.data.toList with
    | some G => joinE m T now G
    | none => if 20 ≤ F.length then 5 else joinE m T now (newG ss rb)
def joG (s : ByteArray) (F : List CE) (D : Nat → GD) (ss rb : Int) : GD := (gv F D s.data.toList).getD (newG ss rb)
/-- Blocks that the program's calls may write: groups, rows of their members, maps. -/
def badP (o : Obj) : Prop := (∃ cs fr, o = .cells cs 109 fr ∨ o = .cells cs 95 fr) ∨ ∃ es n, o = .map es n
def KeepP (w w' : World) : Prop := ∀ (k : Nat) (o : Obj), w.heap[k]? = some o → ¬ badP o → w'.heap[k]? = some o
theorem KeepP.of_below {w w' : World} (hb : Below w.heap.size w w') : KeepP w w' := fun k o hk _ => (hb.block k (Array.getElem?_eq_some_iff.1 hk).1).trans hk
theorem KeepP.trans {w w' w'' : World} (h : KeepP w w') (k : KeepP w' w'') : KeepP w w'' := fun i o hi hb => k i o (h i o hi hb) hb
theorem badP_cells {cs : Array Value} {t : TypeId} {fr : Nat × Nat} (h1 : t ≠ 109) (h2 : t ≠ 95) : ¬ badP (.cells cs t fr) := by
  rintro (⟨cs', fr', e | e⟩ | ⟨es, n, e⟩)
  · injection e with _ e2 _; exact h1 e2
  · injection e with _ e2 _; exact h2 e2
  · cases e
theorem KeepP.box {w w' : World} {b : Nat} {t : TypeId} {cs : Array Value} (h : KeepP w w') (hb : Box w b t cs) (h1 : t ≠ 109) (h2 : t ≠ 95) : Box w' b t cs := h b _ hb (badP_cells h1 h2)
theorem KeepP.row {w w' : World} {base t size n : Nat} {v : Value} {xs : List Value} (h : KeepP w w') (hr : w.ownsRow base t size v n xs) (h1 : t ≠ 109) (h2 : t ≠ 95) : w'.ownsRow base t size v n xs := by
  refine ⟨hr.1, ?_⟩
  rcases hr.2 with h0 | ⟨g, cap, cur, hv, hb, hg, hx⟩
  · exact .inl h0
  · exact .inr ⟨g, cap, cur, hv, hb, h g _ hg (badP_cells h1 h2), hx⟩
theorem keep_grp {w w' : World} {B p : Nat} {v : Value} {R : List MV} {G : GD} (h : GrIs w B p v R G) (ho : Off (GrS p v) w w') : KeepP w w' := fun k o hk hn => (ho.block k (Array.getElem?_eq_some_iff.1 hk).1 (fun hs => hn (by
  rcases hs with e | e
  · subst e
    have hb := h.box
    unfold Box at hb
    rw [hb] at hk
    injection hk with hk
    rw [← hk]
    exact .inl ⟨_, _, .inl rfl⟩
  · rcases h.row.2 with ⟨e0, _⟩ | ⟨q, cap, cur, e0, _, hq, _⟩
    · rw [e0] at e; cases e
    · rw [e0] at e
      have : q = k := by simpa [Value.ownBlock] using e
      subst this
      rw [hq] at hk
      injection hk with hk
      rw [← hk]
      exact .inl ⟨_, _, .inr rfl⟩))).trans hk
theorem keep_map {w w' : World} {k : TypeId} {R : Value → Option (DataW Unit × List MemPlace)} {g n : Nat} {D : DataW Unit} (hm : w.ownsMap Tryz.prog k R g n D) (ho : Off (fun i => i = g) w w') : KeepP w w' := fun i o hi hn => (ho.block i (Array.getElem?_eq_some_iff.1 hi).1 (fun e => hn (by
  have e : i = g := e
  subst e
  obtain ⟨es, clock, hb, _⟩ := hm
  rw [hb] at hi
  injection hi with hi
  rw [← hi]
  exact .inr ⟨_, _, rfl⟩))).trans hi
theorem KeepP.far {w w1 w2 : World} {b : Nat} (h : KeepP w w1) (ho : Off (fun i => i = b) w1 w2) (hb : w.heap.size ≤ b) : KeepP w w2 := fun k o hk hn => by
  have h1 := h k o hk hn
  have hl := (Array.getElem?_eq_some_iff.1 hk).1
  exact (ho.block k (Array.getElem?_eq_some_iff.1 h1).1 (fun e => by have e : k = b := e; omega)).trans h1
/-- What Join gives. -/
def GotJ (W w0 : World) (p g o og : Nat) (k ss rb : Int) (F : List CE) (D : Nat → GD) (O : List Of.KE) (s : ByteArray) (m : Int) (T : List ByteArray) (now : Int) (en : Ending) (w' : World) : Prop :=
  KeepP w0 w' ∧ ((joE s m T now F D ss rb ≠ 0 ∧ en = .returned (.tuple #[.agg #[.int .i64 0, .int .i64 0, .int .i64 0], .int .i64 (joE s m T now F D ss rb)]) ∧ ∃ V' D', CO W w' p g o og (k + 2) ss rb F F V' D' O ∧ ∀ n, gv F D' n = gv F D n) ∨
  (joE s m T now F D ss rb = 0 ∧ ∃ F' V' D', en = .returned (.tuple #[.agg #[.int .i64 (joinM m (joG s F D ss rb)), .int .i64 (joinD m T now (joG s F D ss rb)).gn, .int .i64 (leadM (joinD m T now (joG s F D ss rb)))], .int .i64 0]) ∧ CO W w' p g o og (k + 2) ss rb F' F' V' D' O ∧ (∀ n, gv F' D' n = if n = s.data.toList then some (joinD m T now (joG s F D ss rb)) else gv F D n) ∧ F' = putC ⟨s.data.toList, ((ofN F' s.data.toList).map CE.blk).getD 0⟩ F))
theorem whole_L (now : Int) (G : GD) : (wholeD now G).L = G.L := by
  unfold wholeD
  split
  · rfl
  · rename_i h
    unfold closeD
    rw [enterD_L, moreD_L]
    unfold dropD
    show G.L.filter _ = G.L
    rw [List.filter_eq_self]
    intro x hx
    cases hj : x.j with
    | true => show (!(!x.j)) = true; rw [hj]; rfl
    | false =>
      exact absurd (List.any_eq_true.2 ⟨x, hx, by simp [hj]⟩) h
theorem join_some {m : Int} {T : List ByteArray} {now : Int} {G : GD} (h : joinE m T now G = 0) : (joinD m T now G).L ≠ [] := by
  unfold joinD
  rw [if_pos h]
  have key : ∃ i, posM (joinM m G) (join2D now (join1D m G)).L = some i := by
    rw [pos_join2]
    unfold joinE at h
    split at h
    · unfold joinM join1D
      split at h
      · rename_i hm
        rw [if_pos hm, if_pos hm]
        exact pos_add G
      · rename_i hm
        rw [if_neg hm, if_neg hm]
        cases hp : posM m G.L with
        | none => rw [hp] at h; cases h
        | some i => exact ⟨i, rfl⟩
    · cases h
  obtain ⟨i, hi⟩ := key
  unfold join3D
  rw [hi]
  show (wholeD now (joinAt i T now _)).L ≠ []
  rw [whole_L]
  obtain ⟨x, hx, _⟩ := pos_at hi
  unfold joinAt
  rw [hx]
  show (List.set _ _ _) ≠ []
  intro e
  have h2 := congrArg List.length e
  rw [List.length_set] at h2
  have := (List.getElem?_eq_some_iff.1 hx).1
  simp at h2
  rw [h2] at this
  simp at this
theorem minC_less {F : List CE} {n : List UInt8} {e : CE} (h : ofN F n = some e) : (minC F n).length + 1 ≤ F.length := by
  obtain ⟨hm, hn⟩ := ofN_mem h
  unfold minC
  have : (F.filter fun e => !(e.name == n)).length < F.length := by
    rw [List.length_filter_lt_length_iff_exists]
    exact ⟨e, hm, by simp [hn]⟩
  omega
theorem gv_congr {F : List CE} {D D' : Nat → GD} (h : ∀ e ∈ F, D' e.blk = D e.blk) (n : List UInt8) : gv F D' n = gv F D n := by
  unfold gv
  cases hf : ofN F n with
  | none => rfl
  | some e => exact congrArg some (h e (ofN_mem hf).1)
section
variable {W w w' : World} {p g o og : Nat} {k ss rb : Int} {F : List CE} {V : Nat → Value} {D : Nat → GD} {O : List Of.KE}
/-- A group that is there, or is made. -/
structure Fm (W w : World) (p g o og : Nat) (k ss rb : Int) (F : List CE) (D : Nat → GD) (O : List Of.KE) (s : ByteArray) (B : Nat → Prop) (x : CE) (H : List CE) (V1 : Nat → Value) (D1 : Nat → GD) (w' : World) : Prop where
  co : CO W w' p g o og k ss rb F H V1 D1 O
  mem : x ∈ H
  name : x.name = s.data.toList
  is : D1 x.blk = joG s F D ss rb
  same : ∀ e ∈ F, D1 e.blk = D e.blk
  far : ∀ b, B b → b < w.heap.size → ¬ GrS x.blk (V1 x.blk) b
  bel : Below w.heap.size w w'
  len : (putC x F).length ≤ 20
theorem cfm_c (h : CO W w p g o og k ss rb F F V D O) (hk : 0 ≤ k) (s : ByteArray) (hs : s.size ≤ maxLen) (B : Nat → Prop) (hB : ∀ e ∈ F, ∀ b, B b → ¬ GrS e.blk (V e.blk) b) (hok : ofN F s.data.toList = none → F.length < 20) :
    Calls Tryz.prog 39 #[.pointer (some ⟨p, 0, none⟩), .string s] w (fun e w' => ∃ x H V1 D1, e = .returned (.tuple #[.pointer (some ⟨x.blk, 0, none⟩), .int .i64 0]) ∧ Fm W w p g o og k ss rb F D O s B x H V1 D1 w') := by
  cases hf : ofN F s.data.toList with
  | some e0 =>
    refine (cfm_some h s hs hf).mono ?_
    rintro en w' ⟨rfl, rfl⟩
    obtain ⟨h1, h2⟩ := ofN_mem hf
    refine ⟨e0, F, V, D, rfl, h, h1, h2, ?_, fun e he => rfl, fun b hb _ => hB e0 h1 b hb, Below.refl _ _, ?_⟩
    · unfold joG gv
      rw [hf]; rfl
    · unfold putC
      rw [insC_len, h2]
      have := minC_less hf
      have := h.few
      omega
  | none =>
    refine (cfm_new h s hs hf (hok hf)).mono ?_
    rintro en w' ⟨rfl, rfl⟩
    have hd := h.later ((Below.refl w.heap.size w).drew)
    have ha := hd.add hk s.data.toList hf
    have hfr : ∀ e ∈ F, e.blk ≠ w.heap.size := fun e he x => by
      have := ((h.grp e he).lt e.blk (.inl rfl)).2
      omega
    refine ⟨⟨s.data.toList, w.heap.size⟩, _, _, _, rfl, ha, List.mem_cons_self, rfl, ?_, fun e he => updF_ne _ _ (hfr e he), fun b _ hb hS => ?_, (Below.refl w.heap.size w).drew.alloc (Nat.le_refl _) _, ?_⟩
    · unfold joG gv
      rw [hf]
      exact updF_same _ _ _
    · rcases hS with e | e
      · exact absurd (show b = w.heap.size from e) (by omega)
      · have e2 : (updF V w.heap.size (.slice none 0 0) w.heap.size).ownBlock = some b := e
        rw [updF_same] at e2
        cases e2
    · have h1 := putC_len ⟨s.data.toList, w.heap.size⟩ F
      have := hok hf
      omega
/-- The group's call Join within it. -/
theorem fm_join {B : Nat → Prop} {s : ByteArray} {x : CE} {H : List CE} {V1 : Nat → Value} {D1 : Nat → GD} {w0 : World} (h : Fm W w0 p g o og k ss rb F D O s B x H V1 D1 w) (hk : k ≤ 999000) (m now : Int) (T : List ByteArray) (A : Option Addr) (c : Nat) (hT : StrIn w0 A T) (hTl : T.length ≤ 140737488351232) (hTz : ∀ s ∈ T, s.size ≤ 281474976710656) (hTB : 0 < T.length → ∀ a, A = some a → B a.block) :
    Calls Tryz.prog 40 #[.pointer (some ⟨x.blk, 0, none⟩), .int .i64 m, .slice A T.length c, .int .i64 now] w (fun en w' => en = .returned (.tuple #[.int .i64 (if joinE m T now (joG s F D ss rb) = 0 then joinM m (joG s F D ss rb) else 0), .int .i64 (joinE m T now (joG s F D ss rb))]) ∧ (∃ V2, CO W w' p g o og (k + 2) ss rb F H V2 (updF D1 x.blk (joinD m T now (joG s F D ss rb))) O) ∧ KeepP w w') := by
  have hg := h.co.grp x h.mem
  rw [h.is] at hg
  refine (join_v hg hk m now T A c (hT.below h.bel) hTl hTz (fun hp a ha => h.far _ (hTB hp a ha) ?_)).mono ?_
  · obtain ⟨b, off, e, hlt, _⟩ := hT hp
    rw [e] at ha
    injection ha with ha
    rw [← ha]; exact hlt
  · rintro en w' ⟨rfl, v', h1, h2, h3⟩
    obtain ⟨R, hR⟩ := hg.is
    exact ⟨rfl, ⟨_, h.co.call h.mem h1 h2 h3 (by omega)⟩, keep_grp hR h2⟩
end
set_option maxRecDepth 100000 in
theorem join_result {w : World} (g : Nat) {v0 v1 v2 e : Value} (h : Box w g 41 #[v0, v1, v2]) (tmps : Array Value) (ht : (tmps[10]?).getD undef = .pointer (some ⟨g, 0, none⟩)) (he : (tmps[11]?).getD undef = e) :
    (results Tryz.f12 tmps).run Tryz.prog w = .ok (.tuple #[.agg #[v0, v1, v2], e]) w := by
  have c0 := (h.cell 0).trans (show _ = some v0 from rfl)
  have c1 := (h.cell 1).trans (show _ = some v1 from rfl)
  have c2 := (h.cell 2).trans (show _ = some v2 from rfl)
  simp [results, Tryz.results12, go_sem, ht, he, c0, c1, c2]
theorem jn3 {w : World} {b : Nat} {t : TypeId} {v0 v1 v2 : Value} (h : Box w b t #[v0, v1, v2]) : w.cell? ⟨b, 0, none⟩ = some v0 ∧ w.cell? ⟨b, 1, none⟩ = some v1 ∧ w.cell? ⟨b, 2, none⟩ = some v2 ∧ b < w.heap.size ∧ w.frozen? ⟨b, 0, none⟩ = false ∧ w.frozen? ⟨b, 1, none⟩ = false ∧ w.frozen? ⟨b, 2, none⟩ = false :=
  ⟨(h.cell 0).trans rfl, (h.cell 1).trans rfl, (h.cell 2).trans rfl, h.lt, h.frozen 0, h.frozen 1, h.frozen 2⟩
theorem co_cell_later {w w' : World} {a : Addr} {v : Value} (h : w.cell? a = some v) (hl : a.block < w.heap.size) (hb : Below w.heap.size w w') : w'.cell? a = some v := (hb.cell (p := a) hl).trans h
theorem co_cell_grown {w w' : World} {a : Addr} {v : Value} {g : Nat} (h : w.cell? a = some v) (hl : a.block < w.heap.size) (hg : w.grownBy w' (some g)) (hne : a.block ≠ g) : w'.cell? a = some v := ((grown_off hg).cell hl hne).trans h
theorem co_map_later {w w' : World} {k : TypeId} {R : Value → Option (DataW Unit × List MemPlace)} {b n : Nat} {D : DataW Unit} (h : w.ownsMap Tryz.prog k R b n D) (hb : Below w.heap.size w w') : w'.ownsMap Tryz.prog k R b n D := map_off h (Off.of_below (fun _ => False) hb) (fun x => x)
theorem GotJ.bad {W w0 w' : World} {p g o og : Nat} {k ss rb : Int} {F : List CE} {V : Nat → Value} {D : Nat → GD} {O : List Of.KE} {s : ByteArray} {m now : Int} {T : List ByteArray} (h : CO W w' p g o og k ss rb F F V D O) {e : Int} (hK : KeepP w0 w') (hE : joE s m T now F D ss rb = e) (he : e ≠ 0) : GotJ W w0 p g o og k ss rb F D O s m T now (.returned (.tuple #[.agg #[.int .i64 0, .int .i64 0, .int .i64 0], .int .i64 e])) w' :=
  ⟨hK, .inl ⟨by rw [hE]; exact he, by rw [hE], V, D, h.bump (by omega), fun n => rfl⟩⟩
set_option maxHeartbeats 8000000 in
set_option maxRecDepth 100000 in
theorem cjoin_c {W w : World} {p g o og : Nat} {k ss rb : Int} {F : List CE} {V : Nat → Value} {D : Nat → GD} {O : List Of.KE} (h : CO W w p g o og k ss rb F F V D O) (hk : 0 ≤ k ∧ k ≤ 999000) (s : ByteArray) (hs : s.size ≤ 140737488351232) (m now : Int) (T : List ByteArray) (A : Option Addr) (c : Nat) (hT : StrIn w A T) (hTl : T.length ≤ 140737488351232) (hTz : ∀ s ∈ T, s.size ≤ 281474976710656) (hTS : 0 < T.length → ∀ a, A = some a → ∀ e ∈ F, ¬ GrS e.blk (V e.blk) a.block) :
    Calls Tryz.prog 12 #[.pointer (some ⟨p, 0, none⟩), .string s, .int .i64 m, .slice A T.length c, .int .i64 now] w (GotJ W w p g o og k ss rb F D O s m T now) := by
  have hsm : s.size ≤ maxLen := by unfold maxLen; omega
  have hA : Below w.heap.size w (w.alloc (.cells #[.int .i64 0, .int .i64 0, .int .i64 0] 41)) := (Below.refl _ _).alloc (Nat.le_refl _) _
  have HH := Lib.hid (h.later hA)
  have HB := Lib.hid (Box.new w 41 #[.int .i64 0, .int .i64 0, .int .i64 0])
  have HK0 := Lib.hid (KeepP.of_below hA)
  by_cases h1 : s.size < 1
  · have h1' : (s.size : Int) < 1 := by omega
    have hE : joE s m T now F D ss rb = 1 := by unfold joE; rw [if_pos (.inl h1)]
    have HE := Lib.hid hE
    clear h hA hE
    go_enter Tryz.func12, Tryz.ntmps12
    go_wp2_with fail
    exact bodyPost_ret (join_result w.heap.size HB.out _ rfl rfl) rfl (GotJ.bad HH.out HK0.out HE.out (by decide))
  by_cases h2 : 100 < s.size
  · have h1' : ¬ (s.size : Int) < 1 := by omega
    have h2' : (100 : Int) < (s.size : Int) := by omega
    have hE : joE s m T now F D ss rb = 1 := by unfold joE; rw [if_pos (.inr h2)]
    have HE := Lib.hid hE
    clear h hA hE
    go_enter Tryz.func12, Tryz.ntmps12
    go_wp2_with fail
    exact bodyPost_ret (join_result w.heap.size HB.out _ rfl rfl) rfl (GotJ.bad HH.out HK0.out HE.out (by decide))
  have h1' : ¬ (s.size : Int) < 1 := by omega
  have h2' : ¬ (100 : Int) < (s.size : Int) := by omega
  by_cases hfull : ofN F s.data.toList = none ∧ 20 ≤ F.length
  · have hE : joE s m T now F D ss rb = 5 := by
      unfold joE gv
      rw [if_neg (by omega), hfull.1]
      show (if 20 ≤ F.length then (5 : Int) else _) = _
      rw [if_pos hfull.2]
    have HE := Lib.hid hE
    have cf := cfm_full HH.out s hsm hfull.1 hfull.2
    clear h hA hE hfull
    go_enter Tryz.func12, Tryz.ntmps12
    go_wp2_with fail
    with_reducible refine cf.mono ?_
    rintro en w1 ⟨rfl, rfl⟩
    obtain ⟨r0, r1, r2, rl, rf0, rf1, rf2⟩ := jn3 HB.out
    go_wp2_with fail
    exact bodyPost_ret (join_result w.heap.size HB.out _ rfl rfl) rfl (GotJ.bad HH.out HK0.out HE.out (by decide))
  have cf := cfm_c HH.out hk.1 s hsm (fun b => 0 < T.length ∧ ∃ a, A = some a ∧ b = a.block) (fun e he b hb => by
    obtain ⟨hp, a, ha, rfl⟩ := hb
    exact hTS hp a ha e he) (fun hn => by
    by_cases hl : F.length < 20
    · exact hl
    · exact absurd ⟨hn, by omega⟩ hfull)
  have hjE : joE s m T now F D ss rb = joinE m T now (joG s F D ss rb) := by
    unfold joE joG
    rw [if_neg (by omega)]
    unfold gv
    cases hf : ofN F s.data.toList with
    | some e => rfl
    | none =>
      show (if 20 ≤ F.length then (5 : Int) else _) = _
      rw [if_neg (fun hl => hfull ⟨hf, hl⟩)]
      rfl
  have HJE := Lib.hid hjE
  have HT := Lib.hid (hT.below hA)
  have HS : Hid (s.data.toList.length ≤ 100) := Lib.hid (by
    have : s.data.toList.length = s.size := Array.length_toList
    omega)
  have hcl := fun w => clone_c s w (by omega)
  have HWB : Hid (W.heap.size ≤ w.heap.size) := Lib.hid h.bel.size
  clear h hA hjE hT hTS hfull
  go_enter Tryz.func12, Tryz.ntmps12
  go_wp2_with fail
  with_reducible refine cf.mono ?_
  rintro en w1 ⟨x, H, V1, D1, rfl, hF⟩
  have cj := fm_join hF hk.2 m now T A c HT.out hTl hTz (fun hp a ha => ⟨hp, a, ha, rfl⟩)
  have HB1 := Lib.hid (HB.out.later hF.bel)
  have HK1 := Lib.hid (HK0.out.trans (KeepP.of_below hF.bel))
  have HF := Lib.hid hF
  clear cf hF
  go_wp2_with fail
  with_reducible refine cj.mono ?_
  rintro en w2 ⟨rfl, ⟨V2, hC⟩, hkeep⟩
  have hB2 := hkeep.box HB1.out (by decide) (by decide)
  have HK2 := Lib.hid (HK1.out.trans hkeep)
  have HB2 := Lib.hid hB2
  have HC := Lib.hid hC
  clear cj hkeep hC
  by_cases hE : joinE m T now (joG s F D ss rb) = 0
  · rw [hE, if_pos rfl]
    obtain ⟨c0, c1, c2, c3, cl⟩ := HC.out.is.cells
    have hmap := HC.out.is.map
    have hpg : p ≠ g := box_ne_map HC.out.is.box hmap
    obtain ⟨U, hU, hV⟩ := upd_fun g F.length F s x HF.out.name hsm (by have := HC.out.few; unfold maxLen; omega)
    have HV := Lib.hid hV
    have HE := Lib.hid hE
    clear hV hE c0 c1 c3
    go_wp2_with fail
    go_region_held3 (fun wq => wq.cell? ⟨p, 2, none⟩ = some (.map (some g)))
      (first | exact c2 | exact co_cell_later (w := w2.drew) c2 cl (by assumption) | exact co_cell_grown (co_cell_later (w := w2.drew) c2 cl (by assumption)) (Nat.lt_of_lt_of_le cl (Below.size (w := w2.drew) (by assumption))) (HV.out _ (by assumption)).2 hpg)
      (first | ((with_reducible refine (hcl _).mono ?_); rintro en w5 ⟨rfl, hb5⟩; have own5 := co_map_later hmap.drew hb5))
    all_goals
      obtain ⟨v1, v2⟩ := HV.out _ own5
      have hb2 : Below w2.heap.size w2 w5 := (Below.refl w2.heap.size w2).drew.trans hb5
      have hC5 := HC.out.later hb2
      have hP := hC5.put HF.out.mem (by rw [HF.out.name]; exact HS.out) HF.out.len v1 v2
      have hg := hP.grp x (putC_mem.2 (.inl rfl))
      rw [updF_same] at hg
      have cv := view_v hg
      have hbx := box_grown (HB2.out.later hb2) v2 (box_ne_map HB2.out hmap)
      have HP := Lib.hid hP
      have HK6 := Lib.hid ((HK2.out.trans (KeepP.of_below hb2)).trans (keep_map own5 (grown_off v2)))
      have HBX := Lib.hid hbx
      clear v1 v2 hb2 hC5 hP hg hbx hb5 own5 HB2 HC HB1 hU c2 cl hmap hpg HB HH HV HT
      go_wp2_with fail
      with_reducible refine cv.mono ?_
      rintro en w7 ⟨v7, R7, rfl, hr7, _, ha7, hb7⟩
      obtain ⟨A7, c7, rfl⟩ := own_slice hr7
      have hL := join_some HE.out
      obtain ⟨y0, l0, hL0⟩ : ∃ y0 l0, (joinD m T now (joG s F D ss rb)).L = y0 :: l0 := by
        cases hq : (joinD m T now (joG s F D ss rb)).L with
        | nil => exact absurd hq hL
        | cons a l => exact ⟨a, l, rfl⟩
      have hlead : leadM (joinD m T now (joG s F D ss rb)) = y0.n := by unfold leadM; rw [hL0]
      obtain ⟨a0, hR0, had⟩ : ∃ a0, R7[0]? = some a0 ∧ a0.d = y0 := by
        rw [hL0] at ha7
        cases R7 with
        | nil => cases ha7
        | cons a l =>
          rw [List.map_cons] at ha7
          injection ha7 with h1 _
          exact ⟨a, rfl, h1⟩
      have hpos : 0 < R7.length := (List.getElem?_eq_some_iff.1 hR0).1
      have hA7 : Below w7.heap.size w7 (w7.alloc (.cells #[.int .i64 (joinD m T now (joG s F D ss rb)).ph, .int .i64 (joinD m T now (joG s F D ss rb)).gn, .int .i64 (joinD m T now (joG s F D ss rb)).nx, .int .i64 (joinD m T now (joG s F D ss rb)).un, .slice A7 R7.length c7] 57)) := (Below.refl _ _).alloc (Nat.le_refl _) _
      have hr8 := own_below hr7 hA7
      obtain ⟨g7, rfl, hg7, _, _, hc7⟩ := own_in hr8 hpos
      have u0 := hc7 _ _ (mvR_at hR0).1
      rw [Nat.zero_mul, had, ← hlead] at u0
      obtain ⟨⟨q0, q1, q2, q3, q4⟩, ql, _⟩ := vw5 (Box.new w7 57 #[.int .i64 (joinD m T now (joG s F D ss rb)).ph, .int .i64 (joinD m T now (joG s F D ss rb)).gn, .int .i64 (joinD m T now (joG s F D ss rb)).nx, .int .i64 (joinD m T now (joG s F D ss rb)).un, .slice (some ⟨g7, 0, none⟩) R7.length c7])
      have HP8 := Lib.hid ((HP.out.later hb7).later hA7)
      have HB8 := Lib.hid ((HBX.out.later hb7).later hA7)
      have HJD : Hid True := Lib.hid trivial
      have HK8 := Lib.hid ((HK6.out.trans (KeepP.of_below hb7)).trans (KeepP.of_below hA7))
      obtain ⟨r0, r1, r2, rl, rf0, rf1, rf2⟩ := jn3 HB8.out
      have hposi : (0 : Int) < (R7.length : Int) := by omega
      clear cv hr7 hb7 hA7 hr8 hc7 ha7 hL hL0 had hlead hR0 HP HBX
      generalize hGD : joinD m T now (joG s F D ss rb) = GD at *
      generalize hBW : (w7.alloc (.cells #[.int .i64 GD.ph, .int .i64 GD.gn, .int .i64 GD.nx, .int .i64 GD.un, .slice (some ⟨g7, 0, none⟩) R7.length c7] 57)) = w8 at *
      go_wp2_with fail
      go_region
      all_goals
        go_wp2_with fail
        have hb9 := (((HB8.out.set 0 (.int .i64 (joinM m (joG s F D ss rb)))).set 1 (.int .i64 GD.gn)).set 2 (.int .i64 (leadM GD))).drew
        have o9 := (((Off.one w8 ⟨w.heap.size, 0, none⟩ (.int .i64 (joinM m (joG s F D ss rb)))).set (p := ⟨w.heap.size, 1, none⟩) (.inl (show w.heap.size = w.heap.size from rfl)) (.int .i64 GD.gn)).set (p := ⟨w.heap.size, 2, none⟩) (.inl (show w.heap.size = w.heap.size from rfl)) (.int .i64 (leadM GD))).drew
        refine bodyPost_ret (join_result (e := .int .i64 0) w.heap.size hb9 _ rfl rfl) rfl ?_
        have hrise := HF.out.co.is.rise
        have hnm := HF.out.name
        refine ⟨HK8.out.far o9 (Nat.le_refl _), .inr ⟨by rw [HJE.out]; exact HE.out, putC x F, V2, _, by rw [hGD], HP8.out.box HB8.out (by decide) HWB.out o9, fun n => ?_, ?_⟩⟩
        · unfold gv
          rw [ofN_put hrise, hnm, hGD]
          split
          · show some (updF D1 x.blk GD x.blk) = _
            rw [updF_same]
          · rename_i hn
            cases hf : ofN F n with
            | none => rfl
            | some e0 =>
              obtain ⟨h3, h4⟩ := ofN_mem hf
              show some (updF D1 x.blk GD e0.blk) = some (D e0.blk)
              rw [updF_ne, HF.out.same e0 h3]
              intro hb
              have h5 := HF.out.co.nd e0 (HF.out.co.sub e0 h3) x HF.out.mem hb
              rw [h4, hnm] at h5
              exact hn h5
        · rw [ofN_put hrise, hnm, if_pos rfl]
          show putC x F = putC ⟨s.data.toList, x.blk⟩ F
          rw [← hnm]
  · rw [if_neg hE]
    have hE' : (joinE m T now (joG s F D ss rb) == 0) = false := beq_eq_false_iff_ne.2 hE
    obtain ⟨r0, r1, r2, rl, rf0, rf1, rf2⟩ := jn3 HB2.out
    have HE := Lib.hid hE
    clear hE
    go_wp2_with fail
    have hb5 := ((HB2.out.set 0 (.int .i64 0)).set 1 (.int .i64 0)).set 2 (.int .i64 0)
    have o5 := ((Off.one w2 ⟨w.heap.size, 0, none⟩ (.int .i64 0)).set (p := ⟨w.heap.size, 1, none⟩) (.inl (show w.heap.size = w.heap.size from rfl)) (.int .i64 0)).set (p := ⟨w.heap.size, 2, none⟩) (.inl (show w.heap.size = w.heap.size from rfl)) (.int .i64 0)
    refine bodyPost_ret (join_result (e := .int .i64 (joinE m T now (joG s F D ss rb))) w.heap.size hb5 _ rfl rfl) rfl ?_
    refine ⟨HK2.out.far o5 (Nat.le_refl _), .inl ⟨by rw [HJE.out]; exact HE.out, by rw [HJE.out], V2, _, (HC.out.box HB2.out (by decide) HWB.out o5).shut, fun n => gv_congr (fun e he => ?_) n⟩⟩
    by_cases hb : e.blk = x.blk
    · rw [hb, updF_same]
      have h6 := HF.out.is
      have h7 := HF.out.same e he
      rw [hb] at h7
      rw [← h7, h6]
      unfold joinD
      rw [if_neg HE.out]
    · rw [updF_ne _ _ hb]
      exact HF.out.same e he
end Go.Proofs.YtlokhhjhckiloaaGreat
/- coord: New, Group, May, Leave, Commit, Committed, by contracts. No condition but that calls are not too many. -/
namespace Go.Proofs.YtlokhhjhckiloaaGreat
open Go.RowKit Go.Maps Go.ChangeMaps Go.WideMaps
set_option linter.unusedVariables false
def zG : GD := ⟨0, 0, 0, 0, [], 0, 0⟩
/-- A coordinator of the call's own, wherever it stands: how its groups are, by name. -/
def Cx (W : World) (p : Nat) (k ss rb : Int) (st : List UInt8 → Option GD) (n : Nat) (O : List Of.KE) (w : World) : Prop :=
  ∃ g o og F V D, CO W w p g o og k ss rb F F V D O ∧ (∀ s, gv F D s = st s) ∧ F.length = n
section
variable {W w w' : World} {p : Nat} {k ss rb : Int} {st : List UInt8 → Option GD} {n : Nat} {O : List Of.KE}
theorem Cx.later (h : Cx W p k ss rb st n O w) (hb : Below w.heap.size w w') : Cx W p k ss rb st n O w' := by
  obtain ⟨g, o, og, F, V, D, h, h1, h2⟩ := h
  exact ⟨g, o, og, F, V, D, h.later hb, h1, h2⟩
theorem Cx.bel (h : Cx W p k ss rb st n O w) : Below W.heap.size W w := by
  obtain ⟨g, o, og, F, V, D, h, h1, h2⟩ := h
  exact h.bel
theorem Cx.bump {j : Int} (h : Cx W p k ss rb st n O w) (hj : k ≤ j) : Cx W p j ss rb st n O w := by
  obtain ⟨g, o, og, F, V, D, h, h1, h2⟩ := h
  exact ⟨g, o, og, F, V, D, h.bump hj, h1, h2⟩
theorem Cx.eq {st' : List UInt8 → Option GD} (h : Cx W p k ss rb st n O w) (he : ∀ s, st s = st' s) : Cx W p k ss rb st' n O w := by
  obtain ⟨g, o, og, F, V, D, h, h1, h2⟩ := h
  exact ⟨g, o, og, F, V, D, h, fun s => (h1 s).trans (he s), h2⟩
set_option maxRecDepth 100000 in
theorem group_result {w : World} (g : Nat) {v0 v1 v2 v3 v4 : Value} (h : Box w g 57 #[v0, v1, v2, v3, v4]) (tmps : Array Value) (ht : (tmps[4]?).getD undef = .pointer (some ⟨g, 0, none⟩)) :
    (results Tryz.f22 tmps).run Tryz.prog w = .ok (.agg #[v0, v1, v2, v3, v4]) w := by
  have c0 := (h.cell 0).trans (show _ = some v0 from rfl)
  have c1 := (h.cell 1).trans (show _ = some v1 from rfl)
  have c2 := (h.cell 2).trans (show _ = some v2 from rfl)
  have c3 := (h.cell 3).trans (show _ = some v3 from rfl)
  have c4 := (h.cell 4).trans (show _ = some v4 from rfl)
  simp [results, Tryz.results22, go_sem, ht, c0, c1, c2, c3, c4]
set_option maxHeartbeats 4000000 in
set_option maxRecDepth 100000 in
/-- Group: what it tells. -/
theorem group_x (h : Cx W p k ss rb st n O w) (s : ByteArray) (hs : s.size ≤ maxLen) : Calls Tryz.prog 22 #[.pointer (some ⟨p, 0, none⟩), .string s] w (GotVw w ((st s.data.toList).getD zG).ph ((st s.data.toList).getD zG).gn ((st s.data.toList).getD zG).nx ((st s.data.toList).getD zG).un ((st s.data.toList).getD zG).L) := by
  obtain ⟨g, o, og, F, V, D, h0, h1, h2⟩ := h
  have hA : Below w.heap.size w (w.alloc (.cells #[.int .i64 0, .int .i64 0, .int .i64 0, .int .i64 0, .slice none 0 0] 57)) := (Below.refl _ _).alloc (Nat.le_refl _) _
  have h := h0.later hA
  have HBX := Lib.hid (Box.new w 57 #[.int .i64 0, .int .i64 0, .int .i64 0, .int .i64 0, .slice none 0 0])
  have HA := Lib.hid hA
  have hl := look_any h.is s hs false
  obtain ⟨c0, c1, c2, c3, cl⟩ := h.is.cells
  rw [if_neg (by decide)] at hl
  have hst := h1 s.data.toList
  unfold gv at hst
  have key : ∀ (G : GD), (st s.data.toList).getD zG = G → Calls Tryz.prog 42 #[lookV (ofN F s.data.toList)] (w.alloc (.cells #[.int .i64 0, .int .i64 0, .int .i64 0, .int .i64 0, .slice none 0 0] 57)) (GotVw (w.alloc (.cells #[.int .i64 0, .int .i64 0, .int .i64 0, .int .i64 0, .slice none 0 0] 57)) G.ph G.gn G.nx G.un G.L) := by
    intro G hG
    subst hG
    rw [← hst]
    cases hf : ofN F s.data.toList with
    | none => exact view_nil _
    | some e0 => exact view_v (h.grp e0 (ofN_mem hf).1)
  have cv := key _ rfl
  clear key hst h1 h2 h0 h hA
  generalize (st s.data.toList).getD zG = G at *
  generalize lookV (ofN F s.data.toList) = lv at *
  go_enter Tryz.func22, Tryz.ntmps22
  go_wp2_with fail
  with_reducible refine cv.mono ?_
  rintro en w2 ⟨v2, R, rfl, hr, hm, ha, hb⟩
  obtain ⟨A2, n2, rfl⟩ := own_slice hr
  have hB2 := HBX.out.later hb
  obtain ⟨⟨q0, q1, q2, q3, q4⟩, ql, qf0, qf1, qf2, qf3, qf4⟩ := vw5 hB2
  have HB2 := Lib.hid hB2
  clear hB2 cv hl c0 c1 c2 c3 cl
  go_wp2_with fail
  have o1 := (((((Off.one w2 ⟨w.heap.size, 0, none⟩ (.int .i64 G.ph)).set (p := ⟨w.heap.size, 1, none⟩) (.inl (show w.heap.size = w.heap.size from rfl)) (.int .i64 G.gn)).set (p := ⟨w.heap.size, 2, none⟩) (.inl (show w.heap.size = w.heap.size from rfl)) (.int .i64 G.nx)).set (p := ⟨w.heap.size, 3, none⟩) (.inl (show w.heap.size = w.heap.size from rfl)) (.int .i64 G.un)).set (p := ⟨w.heap.size, 4, none⟩) (.inl (show w.heap.size = w.heap.size from rfl)) (.slice A2 R.length n2))
  have hbf := ((((HB2.out.set 0 (.int .i64 G.ph)).set 1 (.int .i64 G.gn)).set 2 (.int .i64 G.nx)).set 3 (.int .i64 G.un)).set 4 (.slice A2 R.length n2)
  refine bodyPost_ret (group_result w.heap.size hbf _ rfl) rfl ?_
  have hsz : w.heap.size ≤ (w.alloc (.cells #[.int .i64 0, .int .i64 0, .int .i64 0, .int .i64 0, .slice none 0 0] 57)).heap.size := by simp
  have q : ∀ {t size n : Nat} {u : Value} {xs : List Value}, w2.ownsRow (w.alloc (.cells #[.int .i64 0, .int .i64 0, .int .i64 0, .int .i64 0, .slice none 0 0] 57)).heap.size t size u n xs → 57 ≠ t → (((((w2.setCell ⟨w.heap.size, 0, none⟩ (.int .i64 G.ph)).setCell ⟨w.heap.size, 1, none⟩ (.int .i64 G.gn)).setCell ⟨w.heap.size, 2, none⟩ (.int .i64 G.nx)).setCell ⟨w.heap.size, 3, none⟩ (.int .i64 G.un)).setCell ⟨w.heap.size, 4, none⟩ (.slice A2 R.length n2)).ownsRow w.heap.size t size u n xs := fun hq hne => own_base2 (own_off hq o1 (fun j hj e => own_ne hq HB2.out hne j hj e)) hsz
  exact ⟨_, R, rfl, q hr (by decide), fun y hy => ⟨q (hm y hy).tr (by decide), q (hm y hy).pr (by decide)⟩, ha, (HA.out.trans (hb.mono hsz)).trans (o1.below (Nat.le_trans HA.out.size hb.size) (fun j hj => by have e' : j = w.heap.size := hj; omega))⟩
/-- May: what it tells. -/
def mayCE (g : Option GD) (m gen : Int) : Int := if m = -1 ∧ gen = -1 then (if (g.getD zG).ph = 0 then 0 else 11) else match g with | some G => knowE m gen G | none => 11
set_option maxHeartbeats 4000000 in
set_option maxRecDepth 100000 in
theorem may_x (h : Cx W p k ss rb st n O w) (s : ByteArray) (hs : s.size ≤ maxLen) (m gen : Int) : Calls Tryz.prog 18 #[.pointer (some ⟨p, 0, none⟩), .string s, .int .i64 m, .int .i64 gen] w (Good w (.int .i64 (mayCE (st s.data.toList) m gen))) := by
  have fd0 := fieldV0
  by_cases hm : m = -1 ∧ gen = -1
  · obtain ⟨rfl, rfl⟩ := hm
    have cg := group_x h s hs
    unfold mayCE
    rw [if_pos ⟨rfl, rfl⟩]
    generalize (st s.data.toList).getD zG = G at *
    clear h
    by_cases hp : G.ph = 0
    · rw [if_pos hp]
      have hp' : (G.ph != 0) = false := by rw [hp]; rfl
      clear hp
      go_enter Tryz.func18, Tryz.ntmps18
      go_wp2_with fail
      with_reducible refine cg.mono ?_
      rintro en w2 ⟨v2, R, rfl, hr, _, _, hb⟩
      obtain ⟨A2, n2, rfl⟩ := own_slice hr
      go_wp2_with fail
      go_ret
      exact ⟨rfl, hb⟩
    · rw [if_neg hp]
      have hp' : (G.ph != 0) = true := by unfold bne; rw [beq_eq_false_iff_ne.2 hp]; rfl
      clear hp
      go_enter Tryz.func18, Tryz.ntmps18
      go_wp2_with fail
      with_reducible refine cg.mono ?_
      rintro en w2 ⟨v2, R, rfl, hr, _, _, hb⟩
      obtain ⟨A2, n2, rfl⟩ := own_slice hr
      go_wp2_with fail
      go_ret
      exact ⟨rfl, hb⟩
  · obtain ⟨g, o, og, F, V, D, h, h1, h2⟩ := h
    have hst := h1 s.data.toList
    unfold gv at hst
    have hc : (m == -1) = false ∨ (m == -1) = true ∧ (gen == -1) = false := by
      by_cases e1 : m = -1
      · refine .inr ⟨by rw [e1]; rfl, beq_eq_false_iff_ne.2 (fun e2 => hm ⟨e1, e2⟩)⟩
      · exact .inl (beq_eq_false_iff_ne.2 e1)
    unfold mayCE
    rw [if_neg hm, ← hst]
    cases hf : ofN F s.data.toList with
    | none =>
      have cf := fun w (h : CO W w p g o og k ss rb F F V D O) => cfind_none h s hs hf
      have HH := Lib.hid h
      clear h hm hst hf h1 h2
      rcases hc with e1 | ⟨e1, e2⟩
      all_goals
        go_enter Tryz.func18, Tryz.ntmps18
        go_wp2_with fail
        with_reducible refine (cf _ HH.out).mono ?_
        rintro en w2 ⟨rfl, rfl⟩
        go_wp2_with fail
        go_ret
        exact ⟨rfl, Below.refl _ _⟩
    | some e0 =>
      have cf := fun w (h : CO W w p g o og k ss rb F F V D O) => cfind_some h s hs hf
      have ck := knows_v (h.grp e0 (ofN_mem hf).1) m gen
      have HH := Lib.hid h
      clear h hm hst hf h1 h2
      show Calls _ _ _ _ (Good w (.int .i64 (knowE m gen (D e0.blk))))
      rcases hc with e1 | ⟨e1, e2⟩
      all_goals
        go_enter Tryz.func18, Tryz.ntmps18
        go_wp2_with fail
        with_reducible refine (cf _ HH.out).mono ?_
        rintro en w2 ⟨rfl, rfl⟩
        go_wp2_with fail
        with_reducible refine ck.mono ?_
        rintro en w3 ⟨rfl, hb⟩
        go_wp2_with fail
        go_ret
        exact ⟨rfl, hb⟩
theorem may_nil (s : ByteArray) (m gen : Int) (W : World) : Calls Tryz.prog 18 #[.pointer none, .string s, .int .i64 m, .int .i64 gen] W (fun e w' => e = .returned (.int .i64 1) ∧ w' = W) := by
  have cf := fun w => cfind_nil s w
  go_enter Tryz.func18, Tryz.ntmps18
  go_wp2_with fail
  with_reducible refine (cf _).mono ?_
  rintro en w2 ⟨rfl, rfl⟩
  go_wp2_with fail
  go_ret
  exact ⟨rfl, rfl⟩
/-- One group's turn. -/
def putSt (st : List UInt8 → Option GD) (s : List UInt8) (g : Option GD) (n : List UInt8) : Option GD := if n = s then g else st n
def leaCE (g : Option GD) (m now : Int) : Int := match g with | some G => leaveE m now G | none => 11
set_option maxHeartbeats 4000000 in
set_option maxRecDepth 100000 in
theorem leave_x (h : Cx W p k ss rb st n O w) (hk : k ≤ 999000) (s : ByteArray) (hs : s.size ≤ maxLen) (m now : Int) : Calls Tryz.prog 17 #[.pointer (some ⟨p, 0, none⟩), .string s, .int .i64 m, .int .i64 now] w (fun e w' => e = .returned (.int .i64 (leaCE (st s.data.toList) m now)) ∧ Cx W p (k + 1) ss rb (putSt st s.data.toList ((st s.data.toList).map (leaveD m now))) n O w') := by
  obtain ⟨g, o, og, F, V, D, h, h1, h2⟩ := h
  have hst := h1 s.data.toList
  unfold gv at hst
  cases hf : ofN F s.data.toList with
  | none =>
    have cf := cfind_none h s hs hf
    rw [hf] at hst
    have HST := Lib.hid (show none = st s.data.toList from hst)
    have HH : Hid (Cx W p (k + 1) ss rb (putSt st s.data.toList ((st s.data.toList).map (leaveD m now))) n O w) := Lib.hid ⟨g, o, og, F, V, D, h.bump (by omega), fun x => by
      unfold putSt
      split
      · rename_i hx
        rw [hx, h1, ← hst]
        rfl
      · exact h1 x, h2⟩
    clear h hf h1 h2 hst
    rw [← HST.out]
    show Calls _ _ _ _ (fun e w' => e = .returned (.int .i64 11) ∧ _)
    go_enter Tryz.func17, Tryz.ntmps17
    go_wp2_with fail
    with_reducible refine cf.mono ?_
    rintro en w2 ⟨rfl, rfl⟩
    go_wp2_with fail
    go_ret
    refine ⟨rfl, ?_⟩
    have := HH.out
    rw [← HST.out] at this
    exact this
  | some e0 =>
    have he := (ofN_mem hf).1
    have hn := (ofN_mem hf).2
    have cf := cfind_some h s hs hf
    have ck := leave_v (h.grp e0 he) hk m now
    rw [hf] at hst
    have HST := Lib.hid (show some (D e0.blk) = st s.data.toList from hst)
    have HH := Lib.hid h
    have H1 := Lib.hid h1
    have H2 := Lib.hid h2
    have HE := Lib.hid (And.intro he hn)
    clear h hf h1 h2 hst he hn
    rw [← HST.out]
    show Calls _ _ _ _ (fun e w' => e = .returned (.int .i64 (leaveE m now (D e0.blk))) ∧ _)
    go_enter Tryz.func17, Tryz.ntmps17
    go_wp2_with fail
    with_reducible refine cf.mono ?_
    rintro en w2 ⟨rfl, rfl⟩
    go_wp2_with fail
    with_reducible refine ck.mono ?_
    rintro en w3 ⟨rfl, v', b1, b2, b3⟩
    have HC := Lib.hid (HH.out.call HE.out.1 b1 b2 b3 (by omega))
    clear ck b1 b2 b3
    go_wp2_with fail
    go_ret
    refine ⟨rfl, g, o, og, F, _, _, HC.out, fun x => ?_, H2.out⟩
    rw [gv_upd HH.out HE.out.1, HE.out.2]
    unfold putSt
    split
    · rfl
    · exact H1.out x
theorem leave_nil' (s : ByteArray) (m now : Int) (W : World) : Calls Tryz.prog 17 #[.pointer none, .string s, .int .i64 m, .int .i64 now] W (fun e w' => e = .returned (.int .i64 1) ∧ w' = W) := by
  have cf := fun w => cfind_nil s w
  go_enter Tryz.func17, Tryz.ntmps17
  go_wp2_with fail
  with_reducible refine (cf _).mono ?_
  rintro en w2 ⟨rfl, rfl⟩
  go_wp2_with fail
  go_ret
  exact ⟨rfl, rfl⟩
/-- Join. -/
theorem join_x (h : Cx W p k ss rb st n O w) (hk : 0 ≤ k ∧ k ≤ 999000) (s : ByteArray) (hs : 1 ≤ s.size ∧ s.size ≤ 100) (hn : st s.data.toList ≠ none ∨ n < 20) (m now : Int) (T : List ByteArray) (A : Option Addr) (c : Nat) (hT : StrIn w A T) (hTl : T.length ≤ 140737488351232) (hTz : ∀ s ∈ T, s.size ≤ 281474976710656) (hTS : 0 < T.length → ∀ a, A = some a → ∀ g o og F V D, CO W w p g o og k ss rb F F V D O → ∀ e ∈ F, ¬ GrS e.blk (V e.blk) a.block) :
    Calls Tryz.prog 12 #[.pointer (some ⟨p, 0, none⟩), .string s, .int .i64 m, .slice A T.length c, .int .i64 now] w (fun en w' => ∃ a b d e : Int, en = .returned (.tuple #[.agg #[.int .i64 a, .int .i64 b, .int .i64 d], .int .i64 e]) ∧ e = joinE m T now ((st s.data.toList).getD (newG ss rb)) ∧
      (e ≠ 0 → a = 0 ∧ b = 0 ∧ d = 0 ∧ Cx W p (k + 2) ss rb st n O w') ∧
      (e = 0 → a = joinM m ((st s.data.toList).getD (newG ss rb)) ∧ b = (joinD m T now ((st s.data.toList).getD (newG ss rb))).gn ∧ d = leadM (joinD m T now ((st s.data.toList).getD (newG ss rb))) ∧ ∃ n', n' ≤ n + 1 ∧ Cx W p (k + 2) ss rb (putSt st s.data.toList (some (joinD m T now ((st s.data.toList).getD (newG ss rb))))) n' O w')) := by
  obtain ⟨g, o, og, F, V, D, h, h1, h2⟩ := h
  refine (cjoin_c h hk s (by omega) m now T A c hT hTl hTz (fun hp a ha => hTS hp a ha g o og F V D h)).mono ?_
  have hG : joG s F D ss rb = (st s.data.toList).getD (newG ss rb) := by unfold joG; rw [h1]
  have hE : joE s m T now F D ss rb = joinE m T now ((st s.data.toList).getD (newG ss rb)) := by
    unfold joE
    rw [if_neg (by omega), h1]
    cases hs2 : st s.data.toList with
    | some G => rfl
    | none =>
      show (if 20 ≤ F.length then (5 : Int) else _) = _
      rw [if_neg (by
        rcases hn with hn | hn
        · exact absurd hs2 hn
        · omega)]
      rfl
  rintro en w' ⟨_, ⟨e1, rfl, V', D', hc, hg⟩ | ⟨e1, F', V', D', rfl, hc, hg, hl⟩⟩
  · refine ⟨0, 0, 0, _, rfl, hE, fun _ => ⟨rfl, rfl, rfl, g, o, og, F, V', D', hc, fun x => (hg x).trans (h1 x), h2⟩, fun e => absurd e e1⟩
  · refine ⟨_, _, _, 0, rfl, by rw [← hE, e1], fun e => absurd rfl e, fun _ => ⟨by rw [hG], by rw [hG], by rw [hG], F'.length, ?_, g, o, og, F', V', D', hc, fun x => ?_, rfl⟩⟩
    · rw [hl]
      have := putC_len ⟨s.data.toList, ((ofN F' s.data.toList).map CE.blk).getD 0⟩ F
      omega
    · rw [hg x, hG]
      unfold putSt
      split
      · rfl
      · exact h1 x
end
end Go.Proofs.YtlokhhjhckiloaaGreat
/- coord: Tick: every group is told the time, once. No condition but that calls are not too many. -/
namespace Go.Proofs.YtlokhhjhckiloaaGreat
open Go.RowKit Go.Maps Go.ChangeMaps Go.WideMaps Go.Sort Go.Shelf
set_option linter.unusedVariables false
attribute [local go_sem] Oper.semAt_some
section
variable {W w w' : World} {p g o og : Nat} {k ss rb : Int} {F H : List CE} {V : Nat → Value} {D : Nat → GD} {O : List Of.KE}
/-- A block that is no cells, and none of its maps, has turned. -/
theorem CO.far {r : Nat} {ob : Obj} (h : CO W w p g o og k ss rb F H V D O) (hr : w.heap[r]? = some ob) (hc : ob.isCells = false) (hrg : r ≠ g) (hro : r ≠ og) (hW : W.heap.size ≤ r) (ho : Off (fun i => i = r) w w') : CO W w' p g o og k ss rb F H V D O := by
  have bx : ∀ {b : Nat} {t : TypeId} {cs : Array Value}, Box w b t cs → b ≠ r := fun hb e => by
    subst e
    unfold Box at hb
    rw [hb] at hr
    cases hr
    cases hc
  have hbel : Below W.heap.size W w' := h.bel.trans (ho.below h.bel.size (fun i hi => by rw [hi]; exact hW))
  refine ⟨h.is.off ho (bx h.is.box) (fun e => hrg e.symm), h.hp, h.hg, h.sub, fun e he => ?_, h.nd, h.ap, h.ot.off ho (bx h.ot.is.box) (fun e => hro e.symm), h.sep, hbel, h.few, h.nm, h.ss, h.rb⟩
  have h2 := h.grp e he
  obtain ⟨R, hR⟩ := h2.is
  have hq : ∀ {t' size n : Nat} {x : Value} {xs : List Value}, w.ownsRow W.heap.size t' size x n xs → w'.ownsRow W.heap.size t' size x n xs := fun hx => own_off hx ho (fun i hi e => by
    rcases hx.2 with ⟨e0, _⟩ | ⟨q, cap, cur, e0, _, hq, _⟩
    · rw [e0] at hi; cases hi
    · rw [e0] at hi
      have : q = i := by simpa [Value.ownBlock] using hi
      rw [this, e] at hq
      rw [hq] at hr
      cases hr
      cases hc)
  exact ⟨⟨R, hR.box.off ho (bx hR.box), hR.base, hq hR.row, fun x hx => ⟨hq (hR.all x hx).tr, hq (hR.all x hx).pr⟩, hR.abs⟩, h2.q, h2.n, hbel⟩
theorem CO.grownB {B : Nat} {row : Option Nat} (h : CO W w p g o og k ss rb F H V D O) (hgB : g < B) (hoB : og < B) (hWB : W.heap.size ≤ B) (hg : w.grownBy w' row) (hr : ∀ r, row = some r → B ≤ r ∧ ∃ o : Obj, w.heap[r]? = some o ∧ o.isCells = false) : CO W w' p g o og k ss rb F H V D O := by
  cases row with
  | none => exact h.later ⟨hg.os, hg.tape, hg.output, hg.size, fun i hi => hg.block i hi (fun e => by cases e)⟩
  | some r =>
    obtain ⟨h1, ob, h2, h3⟩ := hr r rfl
    exact h.far h2 h3 (by omega) (by omega) (by omega) (grown_off hg)
/-- Some have been told. -/
def tkD (now : Int) (D : Nat → GD) (l : List CE) : Nat → GD := l.foldl (fun D x => updF D x.blk (tickD now (D x.blk))) D
theorem tkD_snoc (now : Int) (D : Nat → GD) (l : List CE) (x : CE) : tkD now D (l ++ [x]) = updF (tkD now D l) x.blk (tickD now (tkD now D l x.blk)) := by unfold tkD; rw [List.foldl_append]; rfl
theorem tkD_ne (now : Int) {b : Nat} : ∀ (l : List CE) (D : Nat → GD), (∀ x ∈ l, x.blk ≠ b) → tkD now D l b = D b
  | [], D, _ => rfl
  | x :: r, D, h => by
    show tkD now (updF D x.blk _) r b = D b
    rw [tkD_ne now r _ (fun y hy => h y (List.mem_cons_of_mem _ hy)), updF_ne _ _ (fun e => h x List.mem_cons_self e.symm)]
theorem tkD_all (now : Int) : ∀ (l : List CE) (D : Nat → GD), l.Pairwise (fun a b => a.blk ≠ b.blk) → ∀ e ∈ l, tkD now D l e.blk = tickD now (D e.blk)
  | [], D, _, e, he => by cases he
  | x :: r, D, h, e, he => by
    rw [List.pairwise_cons] at h
    show tkD now (updF D x.blk _) r e.blk = _
    by_cases hx : e.blk = x.blk
    · rw [tkD_ne now r _ (fun y hy q => h.1 y hy (hx.symm.trans q.symm)), hx, updF_same]
    · rcases List.mem_cons.1 he with rfl | he
      · exact absurd rfl hx
      · rw [tkD_all now r _ h.2 e he, updF_ne _ _ hx]
theorem CO.blks (h : CO W w p g o og k ss rb F F V D O) : F.Pairwise (fun a b => a.blk ≠ b.blk) := by
  refine List.Pairwise.imp_of_mem (fun {a b} ha hb hab e => ?_) h.is.rise
  have := h.nd a ha b hb e
  rw [this, Go.WideAt.bytes_irrefl] at hab
  cases hab
/-- What Tick writes: the groups' boxes and the rows that they name. -/
def ZT (F : List CE) (W : World) (q : Nat) : Prop := ∃ e ∈ F, q = e.blk ∨ ∃ n c, W.cell? ⟨e.blk, 4, none⟩ = some (.slice (some ⟨q, 0, none⟩) n c)
theorem CO.zt (h : CO W w p g o og k ss rb F F V D O) (q : Nat) : ZT F w q ↔ ∃ e ∈ F, GrS e.blk (V e.blk) q := by
  constructor
  · rintro ⟨e, he, e1 | ⟨n, c, e1⟩⟩
    · exact ⟨e, he, .inl e1⟩
    · obtain ⟨R, hR⟩ := (h.grp e he).is
      have h4 := (hR.box.cell 4).trans (show _ = some (V e.blk) from rfl)
      rw [h4] at e1
      injection e1 with e1
      exact ⟨e, he, .inr (by rw [e1]; rfl)⟩
  · rintro ⟨e, he, e1 | e1⟩
    · exact ⟨e, he, .inl e1⟩
    · obtain ⟨R, hR⟩ := (h.grp e he).is
      have h4 := (hR.box.cell 4).trans (show _ = some (V e.blk) from rfl)
      rcases hR.row.2 with ⟨e0, _⟩ | ⟨q', cap, cur, e0, _, _, _⟩
      · rw [e0] at e1; cases e1
      · rw [e0] at e1
        have : q' = q := by simpa [Value.ownBlock] using e1
        subst this
        exact ⟨e, he, .inr ⟨_, _, h4.trans (by rw [e0])⟩⟩
theorem CO.zt_lt (h : CO W w p g o og k ss rb F F V D O) {q : Nat} (hz : ZT F w q) : W.heap.size ≤ q ∧ q < w.heap.size := by
  obtain ⟨e, he, hs⟩ := (h.zt q).1 hz
  exact (h.grp e he).lt q hs
end
theorem co_far_kpz {W w w' : World} {p g o og B : Nat} {k j ss rb : Int} {F : List CE} {V : Nat → Value} {D : Nat → GD} {O : List Of.KE} {x : CE} {v' : Value} {G' : GD}
    (h : CO W w p g o og k ss rb F F V D O) (hx : x ∈ F) (h' : CO W w' p g o og j ss rb F F (updF V x.blk v') (updF D x.blk G') O) (ho : Off (GrS x.blk (V x.blk)) w w') (hv : ∀ i, v'.ownBlock = some i → (V x.blk).ownBlock = some i ∨ w.heap.size ≤ i) : KpZ (ZT F) B w w' := by
  refine ⟨ho.size, fun q u hq _ hz => ?_, fun q hz => ?_⟩
  · exact (ho.block q (Array.getElem?_eq_some_iff.1 hq).1 (fun hs => hz ((h.zt q).2 ⟨x, hx, hs⟩))).trans hq
  · obtain ⟨e, he, hs⟩ := (h'.zt q).1 hz
    by_cases hb : e.blk = x.blk
    · rw [hb, updF_same] at hs
      rcases hs with hs | hs
      · exact .inl ((h.zt q).2 ⟨x, hx, .inl hs⟩)
      · rcases hv q hs with h1 | h1
        · exact .inl ((h.zt q).2 ⟨x, hx, .inr h1⟩)
        · exact .inr h1
    · rw [updF_ne _ _ hb] at hs
      exact .inl ((h.zt q).2 ⟨e, he, hs⟩)
theorem kpT_put {F : List CE} {B S : Nat} (hF : ∀ e ∈ F, e.blk < S) (hB : B ≤ S) (W : World) (l : Nat) (o o' : Obj) (hl : S ≤ l) (ho : W.heap[l]? = some o) (hc : o.isCells = false) : KpZ (ZT F) B W (W.putObj l o') := by
  refine ⟨by simp [World.putObj], fun k u hk hu _ => ?_, fun k hz => .inl ?_⟩
  · refine (World.putObj_heap_other fun e => ?_).trans hk
    subst e
    rw [ho] at hk; cases hk
    rcases hu with h | h
    · rw [h] at hc; cases hc
    · omega
  · obtain ⟨e, he, h1 | ⟨n, c, h1⟩⟩ := hz
    · exact ⟨e, he, .inl h1⟩
    · have := hF e he
      exact ⟨e, he, .inr ⟨n, c, (World.cell?_of_block (a := ⟨e.blk, 4, none⟩) (World.putObj_heap_other (show e.blk ≠ l from by omega))).symm.trans h1⟩⟩
theorem all_stopsT {Wb : World} {F : List CE} {p g o og b B : Nat} {k ss rb : Int} {V : Nat → Value} {D : Nat → GD} {O : List Of.KE} (n : Nat) (hn : 1 ≤ n) (w : World) (hb : Box w b 23 #[.pointer (some ⟨p, 0, none⟩)]) (hC : CO Wb w p g o og k ss rb F F V D O) (hgB : g < B) :
    SeqStopsK Fence.wide n Tryz.prog 76 #[.pointer (some ⟨b, 0, none⟩)] (fun x : Nx F => #[.string (nmA x.1), .pointer (some ⟨x.1.blk, 0, none⟩)]) (KpZ (ZT F) B) (fun ys => vls ys = F) (fun pre => vls pre <+: F) F.length w :=
  fun l J Jx W hW hJ hJx hY h0 => by
    have hC2 := hC.later hW
    have hb2 := hb.later hW
    refine (all1_in (ZT F) B n hn l b p g o ss rb F (fun ys W => ∃ zs : List (Nx F), vls zs = ys ∧ J zs W) (fun ys W => ∃ zs : List (Nx F), vls zs = ys ∧ Jx zs W) W ?_ ?_ ?_ hb2 hC2.is hC.nm (by have := hC.few; omega) ?_
      (fun h => ?_) (fun h => ?_) (fun h => ?_) hgB ⟨[], rfl, h0⟩).mono ?_
    · rintro s A B row ⟨zs, hz, hj⟩ hg hr
      exact ⟨zs, hz, hJ zs A B row hj hg hr⟩
    · rintro s A B row ⟨zs, hz, hj⟩ hg hr
      exact ⟨zs, hz, hJx zs A B row hj hg hr⟩
    · rintro pre x W1 hx ⟨zs, rfl, hj⟩ hlen
      rw [vls_len] at hlen
      refine (hY zs ⟨x, hx⟩ W1 hj hlen).mono ?_
      rintro e W' (⟨he, h1, h2⟩ | ⟨he, h1⟩)
      · exact .inl ⟨he, ⟨_, vls_snoc _ _, h1⟩, h2⟩
      · exact .inr ⟨he, ⟨_, vls_snoc _ _, h1⟩⟩
    · intro W' hW' q hq
      have h3 := hC2.later hW'
      obtain ⟨e, he, hs⟩ := (h3.zt q).1 hq
      have hz : ZT F W q := (hC2.zt q).2 ⟨e, he, hs⟩
      exact ⟨hz, (hC2.zt_lt hz).2⟩
    · obtain ⟨e, he, hs⟩ := (hC2.zt b).1 h
      obtain ⟨R, hR⟩ := (hC2.grp e he).is
      exact grS_box hR hb2 (by decide) (by decide) hs
    · obtain ⟨e, he, hs⟩ := (hC2.zt p).1 h
      obtain ⟨R, hR⟩ := (hC2.grp e he).is
      exact grS_box hR hC2.is.box (by decide) (by decide) hs
    · obtain ⟨e, he, hs⟩ := (hC2.zt g).1 h
      obtain ⟨R, hR⟩ := (hC2.grp e he).is
      exact grS_map hR hC2.is.map hs
    · rintro e W' ⟨he, ⟨ys, rfl, zs, hz, hj⟩ | ⟨pre, hp, zs, hz, hj⟩⟩
      · exact ⟨he, .inl ⟨zs, hz, hj⟩⟩
      · exact ⟨he, .inr ⟨zs, by show vls zs <+: _; rw [hz]; exact hp, hj⟩⟩
/-- Some have been told the time. -/
def TAt (Wb w0 : World) (p g o og : Nat) (k ss rb now : Int) (F : List CE) (D : Nat → GD) (O : List Of.KE) (nb : Nat) (pre : List (Nx F)) (W : World) : Prop :=
  (∃ V, CO Wb W p g o og (k + 2 * pre.length) ss rb F F V (tkD now D (vls pre)) O) ∧ Boxed W nb 3 (.int .i64 now) ∧ KeepP w0 W
set_option maxHeartbeats 4000000 in
set_option maxRecDepth 100000 in
theorem tick_in {Wb : World} {p g o og : Nat} {k ss rb : Int} {F : List CE} {V : Nat → Value} {D : Nat → GD} {O : List Of.KE} (now : Int) (w : World) (hC : CO Wb w p g o og k ss rb F F V D O) (hk : k ≤ 998000) :
    CallsIn Fence.wide 9 Tryz.prog 15 #[.pointer (some ⟨p, 0, none⟩), .int .i64 now] w fun e W' => e = .returned (.tuple #[]) ∧ KeepP w W' ∧ ∃ V', CO Wb W' p g o og (k + 2 * F.length) ss rb F F V' (tkD now D F) O := by
  have hgl : g < w.heap.size := by obtain ⟨es, clock, hm, _⟩ := hC.is.map; exact (Array.getElem?_eq_some_iff.1 hm).1
  have hol : og < w.heap.size := by obtain ⟨es, clock, hm, _⟩ := hC.ot.is.map; exact (Array.getElem?_eq_some_iff.1 hm).1
  have hbl : ∀ e ∈ F, e.blk < w.heap.size := fun e he => ((hC.grp e he).lt e.blk (.inl rfl)).2
  have hWb := hC.bel.size
  have hfew := hC.few
  refine callsIn_of_wp_marks Tryz.func15 rfl trivial ?_ rfl
  simp only [Tryz.ntmps15, List.size_toArray, List.length_cons, List.length_nil, Nat.reduceAdd, Nat.reduceSub, Array.replicate_succ, Array.replicate_zero, List.push_toArray, List.append_toArray, List.nil_append, List.cons_append]
  gi_wp2_with fail
  refine ⟨trivial, (callsIn_wide.2 (c_all p _)).mono ?_⟩
  rintro e w' ⟨rfl, rfl⟩
  gi_wp2_with fail
  obtain ⟨W0, hW0⟩ : ∃ W0, (w.alloc (.cells #[.int .i64 now] 3)).alloc (.cells #[.pointer (some ⟨p, 0, none⟩)] 23) = W0 := ⟨_, rfl⟩
  have hs0 : W0.heap.size = w.heap.size + 2 := by rw [← hW0]; simp
  have hB0 : Boxed W0 w.heap.size 3 (.int .i64 now) := by rw [← hW0]; exact (Boxed.new w _ _).alloc _
  have hB1 : Box W0 (w.heap.size + 1) 23 #[.pointer (some ⟨p, 0, none⟩)] := by
    rw [← hW0]
    have := Box.new (w.alloc (.cells #[.int .i64 now] 3)) 23 #[.pointer (some ⟨p, 0, none⟩)]
    rwa [World.size_alloc] at this
  have hBW : Below w.heap.size w W0 := by rw [← hW0]; exact ((Below.refl _ w).alloc (Nat.le_refl _) _).alloc (by simp) _
  have hC0 := hC.later hBW
  try rw [hW0]
  clear hW0
  refine wpIn_rangeFunc_ownF rfl (by omega) (gf := 76) (lb := #[.pointer (some ⟨w.heap.size + 1, 0, none⟩)]) rfl trivial (enters_of Tryz.func76 (by kernel_rfl) rfl)
    (all_stopsT (B := w.heap.size) 8 (by omega) W0 hB1 hC0 hgl) KpZ.trans (fun W l o o' h1 h2 h3 h4 => kpT_put (S := W0.heap.size) (fun e he => by have := hbl e he; omega) (by omega) W l o o' h1 h2 h3) (Below.refl _ _) (fun _ => rfl)
    (TAt Wb w p g o og k ss rb now F D O w.heap.size) (fun _ _ _ => False) ?own (fun _ _ _ _ _ hs _ _ => hs) ⟨⟨V, hC0.bump (by simp)⟩, hB0, KeepP.of_below hBW⟩
    (fun x : Nx F => { tmps := #[.pointer (some ⟨p, 0, none⟩), .int .i64 now, undef, .pointer (some ⟨w.heap.size, 0, none⟩), undef, .pointer (some ⟨x.1.blk, 0, none⟩), .pointer (some ⟨p, 0, none⟩), .func (.func 76) #[] #[.pointer (some ⟨w.heap.size + 1, 0, none⟩)], .string (nmA x.1), .pointer (some ⟨x.1.blk, 0, none⟩), undef, undef, undef], defers := [] }) ?assign ?body ?done ?stop
  case own =>
    rintro pre A B row ⟨⟨V1, h1⟩, h2, h3⟩ hg hr
    refine ⟨⟨V1, h1.grownB (B := W0.heap.size) (by omega) (by omega) (by omega) hg hr⟩, h2.kept hg (fun e => ?_), fun q u hq hn => ?_⟩
    · obtain ⟨hr1, _⟩ := hr _ e.symm
      omega
    · have hq2 := h3 q u hq hn
      have hlq := (Array.getElem?_eq_some_iff.1 hq).1
      exact (hg.block q (Array.getElem?_eq_some_iff.1 hq2).1 (fun e => by have := (hr _ e.symm).1; omega)).trans hq2
  case assign =>
    intro l x W K hK
    gi_wp2
    exact hK
  case body =>
    rintro l pre ⟨x, hx⟩ W ⟨⟨V1, hC1⟩, hv, hkp⟩ hlen
    have hvc := hv.cell
    have hob : W.heap.size ≥ 0 := Nat.zero_le _
    gi_wp2_with fail
    have hlen' : pre.length < 20 := by omega
    refine ⟨trivial, ?_⟩
    refine (CallsIn.inRound l (callsIn_wide.2 (tick_v (hC1.grp x hx) (by omega) now))).mono ?_
    rintro e w2 ⟨rfl, v', hG', ho, hv'⟩
    have hC2 := hC1.call hx hG' ho hv' (by omega)
    gi_wp2
    refine ⟨⟨ho.size, fun q u hq hu => ?_⟩, co_far_kpz hC1 hx hC2 ho hv', ⟨updF V1 x.blk v', ?_⟩, ?_, ?_⟩
    · refine (ho.block q (Array.getElem?_eq_some_iff.1 hq).1 (fun hs => ?_)).trans hq
      obtain ⟨R, hR⟩ := (hC1.grp x hx).is
      rcases hs with e | e
      · subst e
        have hb := hR.box
        unfold Box at hb
        rw [hb] at hq; cases hq; cases hu
      · rcases hR.row.2 with ⟨e0, _⟩ | ⟨q', cap, cur, e0, _, hq', _⟩
        · rw [e0] at e; cases e
        · rw [e0] at e
          have : q' = q := by simpa [Value.ownBlock] using e
          subst this
          rw [hq'] at hq; cases hq; cases hu
    · rw [vls_snoc, tkD_snoc, List.length_append]
      exact hC2.bump (by simp; omega)
    · obtain ⟨R, hR⟩ := (hC1.grp x hx).is
      exact Box.off (cs := #[.int .i64 now]) hv ho (grS_box hR (cs := #[.int .i64 now]) hv (by decide) (by decide))
    · obtain ⟨R, hR⟩ := (hC1.grp x hx).is
      exact hkp.trans (keep_grp hR ho)
  case done =>
    rintro D' ys W hD hS ⟨⟨V1, hC1⟩, hv, hkp⟩ hK
    gi_wp2
    refine ⟨by simp, .inl ⟨_, _, rfl, run_takeDeferred hK, ?_⟩⟩
    refine ⟨_, results_none rfl _ _ _, rfl, hkp.far (b := D') ((Off.refl _ _).grown (grownBy_putObj' W D' _) (fun i e _ => by injection e with e; exact e.symm)) (by omega), V1, ?_⟩
    have hl : ys.length = F.length := by rw [← vls_len ys, show vls ys = F from hS]
    rw [hl, show vls ys = F from hS] at hC1
    exact hC1.grownB (B := W0.heap.size) (by omega) (by omega) (by omega) (grownBy_putObj' W D' _) (fun r e => by injection e with e; subst e; exact ⟨hD, _, hK, rfl⟩)
  case stop =>
    rintro D c pre W _ _ h _
    exact h.elim
/-- Tick: every group is told. -/
theorem ctick_c {Wb w : World} {p g o og : Nat} {k ss rb : Int} {F : List CE} {V : Nat → Value} {D : Nat → GD} {O : List Of.KE} (now : Int) (hC : CO Wb w p g o og k ss rb F F V D O) (hk : k ≤ 998000) :
    Calls Tryz.prog 15 #[.pointer (some ⟨p, 0, none⟩), .int .i64 now] w fun e W' => e = .returned (.tuple #[]) ∧ KeepP w W' ∧ ∃ V' D', CO Wb W' p g o og (k + 40) ss rb F F V' D' O ∧ ∀ e ∈ F, D' e.blk = tickD now (D e.blk) := by
  refine (callsIn_wide.1 (tick_in now w hC hk)).mono ?_
  rintro e W' ⟨rfl, hkp, V', h⟩
  exact ⟨rfl, hkp, V', _, h.bump (by have := hC.few; omega), fun e he => tkD_all now F D hC.blks e he⟩
theorem ctick_x {W w : World} {p : Nat} {k ss rb : Int} {st : List UInt8 → Option GD} {n : Nat} {O : List Of.KE} (h : Cx W p k ss rb st n O w) (hk : k ≤ 998000) (now : Int) :
    Calls Tryz.prog 15 #[.pointer (some ⟨p, 0, none⟩), .int .i64 now] w fun e w' => e = .returned (.tuple #[]) ∧ Cx W p (k + 40) ss rb (fun s => (st s).map (tickD now)) n O w' := by
  obtain ⟨g, o, og, F, V, D, h, h1, h2⟩ := h
  refine (ctick_c now h hk).mono ?_
  rintro e w' ⟨rfl, _, V', D', h', hD⟩
  refine ⟨rfl, g, o, og, F, V', D', h', fun s => ?_, h2⟩
  show gv F D' s = (st s).map (tickD now)
  rw [← h1 s]
  unfold gv
  cases hf : ofN F s with
  | none => rfl
  | some e => exact congrArg some (hD e (ofN_mem hf).1)
end Go.Proofs.YtlokhhjhckiloaaGreat
/- coord: New, Commit, Committed; a coordinator that is none. No condition. -/
namespace Go.Proofs.YtlokhhjhckiloaaGreat
open Go.RowKit Go.Maps Go.ChangeMaps Go.WideMaps
set_option linter.unusedVariables false
set_option maxRecDepth 100000 in
theorem cnew_no (s r : Int) (h : (witB s 1 100000 && witB r 1 100000) = false) (W : World) : Calls Tryz.prog 6 #[.int .i64 s, .int .i64 r] W (fun e w' => e = .returned (.tuple #[.pointer none, .int .i64 1]) ∧ w' = W) := by
  have cn := new_no s r h W
  go_enter Tryz.func6, Tryz.ntmps6
  go_wp2_with fail
  with_reducible refine cn.mono ?_
  rintro en w2 ⟨rfl, rfl⟩
  go_wp2_with fail
  go_ret2
  exact ⟨rfl, rfl⟩
set_option maxHeartbeats 4000000 in
set_option maxRecDepth 100000 in
theorem cnew_ok (s r : Int) (hs : 1 ≤ s ∧ s ≤ 100000) (hr : 1 ≤ r ∧ r ≤ 100000) (W0 W : World) (hb0 : Below W0.heap.size W0 W) : Calls Tryz.prog 6 #[.int .i64 s, .int .i64 r] W (fun e w' => ∃ p, e = .returned (.tuple #[.pointer (some ⟨p, 0, none⟩), .int .i64 0]) ∧ Cx W0 p 0 s r (fun _ => none) 0 [] w') := by
  have cn := new_ok s r (wit_ok hs hr) W
  have HB0 := Lib.hid hb0
  clear hb0
  go_enter Tryz.func6, Tryz.ntmps6
  go_wp2_with fail
  with_reducible refine cn.mono ?_
  rintro en w1 ⟨rfl, hw1⟩
  have hb1 : Below W.heap.size W w1 := by rw [hw1]; exact (Below.refl _ _).alloc (Nat.le_refl _) _
  have HB1 := Lib.hid (HB0.out.trans (hb1.mono HB0.out.size))
  have co := Of.new_v W0 w1 1000 (by omega) (by omega) HB1.out.size
  clear cn hw1 hb1
  go_wp2_with fail
  with_reducible refine co.mono ?_
  rintro en w2 ⟨o, og, rfl, hO, h1, h2, h3, h4, hb⟩
  have HB2 := Lib.hid (HB1.out.trans (hb.mono HB1.out.size))
  have HO := Lib.hid hO
  have H4 := Lib.hid h4
  have H3 := Lib.hid h3
  have q2 : ∀ w : World, (Instr.makeMap 67 none).run Tryz.prog w = .ok (.map (some w.heap.size)) (w.alloc (.map #[] 0)) := fun w => by
    first
      | rfl
      | exact run_makeMap _ _
  clear co hO h1 h2 h3 h4 hb
  go_wp2_with fail
  go_ret2
  have hA1 : Below w2.heap.size w2 (w2.alloc (.map #[] 0)) := (Below.refl _ _).alloc (Nat.le_refl _) _
  have hA2 : Below (w2.alloc (.map #[] 0)).heap.size (w2.alloc (.map #[] 0)) ((w2.alloc (.map #[] 0)).alloc (.cells #[.int .i64 s, .int .i64 r, .map (some w2.heap.size), .pointer (some ⟨o, 0, none⟩)] 69)) := (Below.refl _ _).alloc (Nat.le_refl _) _
  have hbx := Box.new (w2.alloc (.map #[] 0)) 69 #[.int .i64 s, .int .i64 r, .map (some w2.heap.size), .pointer (some ⟨o, 0, none⟩)]
  have hm := co_map_later (World.ownsMap_made w2 Tryz.prog 9 tokC) hA2
  have hz : (w2.alloc (.map #[] 0)).heap.size = w2.heap.size + 1 := by rw [World.size_alloc]
  rw [hz] at hbx
  have hbel := (HB2.out.trans (hA1.mono HB2.out.size)).trans (hA2.mono (Nat.le_trans HB2.out.size hA1.size))
  refine ⟨_, rfl, w2.heap.size, o, og, [], fun _ => .slice none 0 0, fun _ => zG, ⟨⟨hbx, hm, .nil⟩, ?_, HB2.out.size, fun e he => he, (fun e he => by cases he), (fun e he => by cases he), (fun e he => by cases he), (HO.out.later hA1).later hA2, ?_, hbel, by simp, (fun e he => by cases he), hs, hr⟩, fun x => rfl, rfl⟩
  · have := HB2.out.size; omega
  · have := H4.out; omega
section
variable {W w w' : World} {p : Nat} {k ss rb : Int} {st : List UInt8 → Option GD} {n : Nat} {O : List Of.KE}
set_option maxHeartbeats 4000000 in
set_option maxRecDepth 100000 in
theorem commit_x (h : Cx W p k ss rb st n O w) (s t : ByteArray) (i a : Int) : Calls Tryz.prog 19 #[.pointer (some ⟨p, 0, none⟩), .string s, .agg #[.string t, .int .i64 i], .int .i64 a] w (fun e w' => e = .returned (.int .i64 (Of.coR 1000 O ⟨s, t, i⟩ a)) ∧ Cx W p k ss rb st n (Of.coS 1000 O ⟨s, t, i⟩ a) w' ∧ ∀ b ty cs, Box w b ty cs → Box w' b ty cs) := by
  obtain ⟨g, o, og, F, V, D, h, h1, h2⟩ := h
  have hA : Below w.heap.size w (w.alloc (.cells #[.string t, .int .i64 i] 34)) := (Below.refl _ _).alloc (Nat.le_refl _) _
  have hd : Below w.heap.size w (w.alloc (.cells #[.string t, .int .i64 i] 34)).drew := hA.drew
  have h' := h.later hd
  have cc := Of.commit_v h'.ot ⟨s, t, i⟩ a
  obtain ⟨c0, c1, c2, c3, cl⟩ := (h.later hA).is.cells
  have hbx := Box.new w 34 #[.string t, .int .i64 i]
  have z0 := (hbx.cell 0).trans (show _ = some (Value.string t) from rfl)
  have z1 := (hbx.cell 1).trans (show _ = some (Value.int .i64 i) from rfl)
  have hp : p ≠ og := box_ne_map h'.is.box h'.ot.is.map
  have hn : w.heap.size ≠ og := box_ne_map (w := (w.alloc (.cells #[.string t, .int .i64 i] 34)).drew) hbx.drew h'.ot.is.map
  have HK : Hid (∀ w', Of.Wr W o og 1000 (Of.coS 1000 O ⟨s, t, i⟩ a) (w.alloc (.cells #[.string t, .int .i64 i] 34)).drew w' → w'.cell? ⟨p, 3, none⟩ = some (.pointer (some ⟨o, 0, none⟩)) ∧ w'.cell? ⟨w.heap.size, 0, none⟩ = some (.string t) ∧ w'.cell? ⟨w.heap.size, 1, none⟩ = some (.int .i64 i)) := Lib.hid (fun w' hw => ⟨(hw.off.cell (p := ⟨p, 3, none⟩) cl hp).trans c3, (hw.off.cell (p := ⟨w.heap.size, 0, none⟩) hbx.lt hn).trans z0, (hw.off.cell (p := ⟨w.heap.size, 1, none⟩) hbx.lt hn).trans z1⟩)
  have HC := Lib.hid h'
  have HD := Lib.hid hd
  have H1 := Lib.hid h1
  have H2 := Lib.hid h2
  clear h hA hd h' hbx h1 h2 c0 c1 c2
  go_enter Tryz.func19, Tryz.ntmps19
  go_wp2_with fail
  go_region_held3 (fun wq => wq.cell? ⟨p, 3, none⟩ = some (.pointer (some ⟨o, 0, none⟩)) ∧ wq.cell? ⟨w.heap.size, 0, none⟩ = some (.string t) ∧ wq.cell? ⟨w.heap.size, 1, none⟩ = some (.int .i64 i))
    (first | exact ⟨c3, z0, z1⟩ | exact HK.out _ (by assumption))
    (first | ((with_reducible refine cc.mono ?_); rintro en w3 ⟨rfl, hw3⟩))
  all_goals
    have HW : Hid (Cx W p k ss rb st n (Of.coS 1000 O ⟨s, t, i⟩ a) w3) := Lib.hid ⟨g, o, og, F, V, D, HC.out.offs (by assumption), H1.out, H2.out⟩
    have HWB : Hid (∀ b ty cs, Box w b ty cs → Box w3 b ty cs) := Lib.hid (fun b ty cs hb => by
      have hb2 := hb.later HD.out
      exact hb2.off hw3.off (box_ne_map hb2 HC.out.ot.is.map))
    clear hw3 cc
    go_wp2_with fail
    go_ret
    exact ⟨rfl, HW.out, HWB.out⟩
set_option maxHeartbeats 4000000 in
set_option maxRecDepth 100000 in
theorem committed_x (h : Cx W p k ss rb st n O w) (s t : ByteArray) (i : Int) (hk : Of.KyOk ⟨s, t, i⟩) : Calls Tryz.prog 14 #[.pointer (some ⟨p, 0, none⟩), .string s, .agg #[.string t, .int .i64 i]] w (fun e w' => e = .returned (.tuple #[.int .i64 (Of.geR O ⟨s, t, i⟩).1, .bool (Of.geR O ⟨s, t, i⟩).2]) ∧ Below w.heap.size w w') := by
  obtain ⟨g, o, og, F, V, D, h, h1, h2⟩ := h
  have hA : Below w.heap.size w (w.alloc (.cells #[.string t, .int .i64 i] 34)) := (Below.refl _ _).alloc (Nat.le_refl _) _
  have hd : Below w.heap.size w (w.alloc (.cells #[.string t, .int .i64 i] 34)).drew := hA.drew
  have cc := Of.get_v (h.later hd).ot ⟨s, t, i⟩ hk
  obtain ⟨c0, c1, c2, c3, cl⟩ := (h.later hA).is.cells
  have hbx := Box.new w 34 #[.string t, .int .i64 i]
  have z0 := (hbx.cell 0).trans (show _ = some (Value.string t) from rfl)
  have z1 := (hbx.cell 1).trans (show _ = some (Value.int .i64 i) from rfl)
  have HK : Hid (∀ w', Below (w.alloc (.cells #[.string t, .int .i64 i] 34)).drew.heap.size (w.alloc (.cells #[.string t, .int .i64 i] 34)).drew w' → w'.cell? ⟨p, 3, none⟩ = some (.pointer (some ⟨o, 0, none⟩)) ∧ w'.cell? ⟨w.heap.size, 0, none⟩ = some (.string t) ∧ w'.cell? ⟨w.heap.size, 1, none⟩ = some (.int .i64 i)) := Lib.hid (fun w' hw => ⟨(hw.cell (p := ⟨p, 3, none⟩) cl).trans c3, (hw.cell (p := ⟨w.heap.size, 0, none⟩) hbx.lt).trans z0, (hw.cell (p := ⟨w.heap.size, 1, none⟩) hbx.lt).trans z1⟩)
  have HD := Lib.hid hd
  clear h hA hd hbx h1 h2 c0 c1 c2
  go_enter Tryz.func14, Tryz.ntmps14
  go_wp2_with fail
  go_region_held3 (fun wq => wq.cell? ⟨p, 3, none⟩ = some (.pointer (some ⟨o, 0, none⟩)) ∧ wq.cell? ⟨w.heap.size, 0, none⟩ = some (.string t) ∧ wq.cell? ⟨w.heap.size, 1, none⟩ = some (.int .i64 i))
    (first | exact ⟨c3, z0, z1⟩ | exact HK.out _ (by assumption))
    (first | ((with_reducible refine cc.mono ?_); rintro en w3 ⟨rfl, hw3⟩))
  all_goals
    have HW : Hid (Below w.heap.size w w3) := Lib.hid (HD.out.trans (hw3.mono HD.out.size))
    clear hw3 cc
    go_wp2_with fail
    go_ret2
    exact ⟨rfl, HW.out⟩
end
end Go.Proofs.YtlokhhjhckiloaaGreat
/- offsets: what is a key of the map is a key: plain words. No condition. -/
namespace Go.Proofs.YtlokhhjhckiloaaGreat.Of
open Go.RowKit Go.Maps Go.ChangeMaps Go.WideMaps
set_option linter.unusedVariables false
theorem lits_str {m : Nat} {a : Value} {ls : List Lit} (h : Tryz.prog.keyLits (m + 1) 9 [a] = some ls) : ∃ s : ByteArray, a = .string s ∧ s.size ≤ maxLen := by
  simp only [Program.keyLits, Tryz.underlying9] at h
  cases a <;> simp at h
  case string s => exact ⟨s, rfl, h.1⟩
theorem lits_int {m : Nat} {a : Value} {ls : List Lit} (h : Tryz.prog.keyLits (m + 1) 3 [a] = some ls) : ∃ n : Int, a = .int .i64 n ∧ (Lit.int .i64 n).wf = true := by
  simp only [Program.keyLits, Tryz.underlying3] at h
  cases a <;> simp at h
  case int k n => exact ⟨n, by rw [h.1.1], h.1.2⟩
set_option maxRecDepth 100000 in
theorem kyInv {key : Value} {kl : Lit} (h : keyOf Tryz.prog 99 key = some kl) : ∃ k : KY, key = kyV k ∧ KyOk k := by
  unfold keyOf at h
  simp only [Tryz.underlying99] at h
  by_cases hf : (Tryz.prog.keyType 99 && key.formed Tryz.prog 99) = true
  · rw [if_pos hf] at h
    simp only [Bool.and_eq_true] at hf
    have hform := hf.2
    have hfs : ∃ fs, Tryz.prog.underlying 99 = some (.struct fs) := ⟨_, Tryz.underlying99⟩
    obtain ⟨fs, hu⟩ := hfs
    cases key
    case agg cs =>
      unfold Value.formed at hform
      rw [hu] at hform
      simp only [kyCells, beq_iff_eq] at hform
      obtain ⟨l⟩ := cs
      match l, hform with
      | [a, b, c], _ =>
        obtain ⟨n, hn⟩ : ∃ n, Tryz.prog.types.size = n + 2 := ⟨Tryz.prog.types.size - 2, by kernel_rfl⟩
        rw [hn] at h
        have c1 : Tryz.prog.cellsOf 9 = 1 := by kernel_rfl
        have c2 : Tryz.prog.cellsOf 34 = 2 := by kernel_rfl
        have c3 : Tryz.prog.cellsOf 3 = 1 := by kernel_rfl
        have h' : (Tryz.prog.keyLits (n + 3) 99 [a, b, c]).map (fun ls => Lit.string (keyBytes ls)) = some kl := h
        rw [show n + 3 = (n + 2) + 1 from rfl] at h'
        unfold Program.keyLits at h'
        simp [Tryz.underlying99, c1, c2, kyCells, Option.bind_eq_some_iff, List.mapM_cons] at h'
        obtain ⟨l1, k1, _, ⟨l2, k2, _⟩, _⟩ := h'
        obtain ⟨s1, rfl, z1⟩ := lits_str k1
        rw [show n + 2 = (n + 1) + 1 from rfl] at k2
        unfold Program.keyLits at k2
        simp [Tryz.underlying34, c1, c2, c3, Option.bind_eq_some_iff, List.mapM_cons] at k2
        obtain ⟨l3, k3, _, ⟨l4, k4, _⟩, _⟩ := k2
        obtain ⟨s2, rfl, z2⟩ := lits_str k3
        obtain ⟨i, rfl, z3⟩ := lits_int k4
        exact ⟨⟨s1, s2, i⟩, rfl, ⟨z1, z2, z3⟩⟩
    all_goals
      unfold Value.formed at hform
      rw [hu] at hform
      simp at hform
  · rw [if_neg hf] at h
    cases h
end Go.Proofs.YtlokhhjhckiloaaGreat.Of
/- offsets: maps.DeleteFunc at its own keys, by a contract. No condition. -/
namespace Go.Proofs.YtlokhhjhckiloaaGreat.Of
open Go.RowKit Go.Maps Go.ChangeMaps Go.WideMaps
set_option linter.unusedVariables false
theorem tokI_of {v : Value} {y : DataW Unit × List MemPlace} (h : tokI v = some y) : ∃ a : Int, v = .int .i64 a ∧ y = (.lit (.int .i64 a), []) := by
  unfold tokI at h
  split at h
  · injection h with h
    exact ⟨_, rfl, h.symm⟩
  · cases h
set_option maxHeartbeats 8000000 in
set_option maxRecDepth 100000 in
theorem dfun_c (pd : Lit → DataW Unit → Bool) (gf : Nat) (cb : Array Value) (g n : Nat) (D : DataW Unit) (w : World) (eg : ∀ args w, (callFunc gf args).run Tryz.prog w = .ok (.enter gf args) w)
    (hown : w.ownsMap Tryz.prog 99 tokI g n D)
    (hdel : ∀ (W : World) (k : KY) (a : Int) (kl : Lit), w.grownBy W (some g) → keyOf Tryz.prog 99 (kyV k) = some kl →
      Calls Tryz.prog gf (#[.agg #[.string k.g, .string k.t, .int .i64 k.i], .int .i64 a] ++ cb) W fun e w' => e = .returned (.bool (pd kl (.lit (.int .i64 a)))) ∧ W.grownBy w' none) :
    Calls Tryz.prog 113 #[.map (some g), .func (.func gf) #[] cb] w fun e w' => e = .returned (.tuple #[]) ∧ w'.ownsMap Tryz.prog 99 tokI g n (Lib.deleteFuncD pd D) ∧ w.grownBy w' (some g) := by
  obtain ⟨es0, rfl, hap, hkeys⟩ := hown.entries kyKeyed
  have HD := Lib.hid hdel
  clear hdel
  go_enter Tryz.func113, Tryz.ntmps113
  go_wp2_with (first
    | (at_range; refine wpList_range_own _ rfl _ 110 rfl 99 3 kyKeyed Tryz.underlying110 tokI g n _ rfl hown ?_; intro w0 hrg0 hg0 hs0)
    | go_in)
  go_frame
  go_loopw [8] (fun _ wr => ∃ (left : Lit → Bool) (cnt : Nat), wr.ranges Tryz.prog 99 tokI g w.heap.size n (Fk pd es0 left) left cnt ∧ w.grownBy wr (some g))
    (fun _ wr => wr.rangeLeft g w.heap.size)
  case atStart => exact ⟨_, _, by rw [Fk_start hkeys]; exact hrg0, hg0.but _⟩
  case round =>
    obtain ⟨left, cnt, hrg, hgw⟩ := hrel
    go_wp2_with (first
      | (at_next; refine wpList_next_ranges (α := KY) (β := Int) _ rfl _ rfl 99 kyKeyed tokI kyV (Value.int .i64) (fun key _ hk => by obtain ⟨k, hk1, _⟩ := kyInv hk; exact ⟨k, hk1⟩) (fun v _ hv => by obtain ⟨a, ha, _⟩ := tokI_of hv; exact ⟨a, ha⟩) g w.heap.size n _ _ _ rfl hrg ?_ ?_)
      | go_in)
    · intro _ hl0
      go_wp2
      go_end0
      exact ⟨rfl, by rw [← Fk_end hl0]; exact hrg.owns, hgw⟩
    · intro x c kl yd yp w1 cnt1 hkey hlx hv hat hrg1 hlt hg1 hs1 hen
      obtain ⟨a', ha', hyy⟩ := tokI_of hv
      obtain rfl : yd = .lit (.int .i64 a') := congrArg Prod.fst hyy
      clear hyy
      injection ha' with _ ha'
      subst ha'
      have hgw1 := hgw.andThen hg1 (fun j hj => by cases hj; exact Or.inl (Nat.le_refl _))
      have hgA := World.grownBy_alloc w1 (.cells #[.string x.g, .string x.t, .int .i64 x.i] 99) none
      have hrgA := hrg1.kept hgA (by simp) (by simp)
      have hgwA := hgw1.andThen hgA (fun j hj => by cases hj)
      have hc := HD.out _ x c kl hgwA hkey
      have hbl := hrg1.owns.lt
      have hrl := hrg1.lt
      have hbx := Box.new w1 99 #[.string x.g, .string x.t, .int .i64 x.i]
      have b0 := (hbx.cell 0).trans (show _ = some (Value.string x.g) from rfl)
      have b1 := (hbx.cell 1).trans (show _ = some (Value.string x.t) from rfl)
      have b2 := (hbx.cell 2).trans (show _ = some (Value.int .i64 x.i) from rfl)
      rw [hs1] at b0 b1 b2
      have hen' := hen
      unfold kyV at hen'
      have hkey' := hkey
      unfold kyV at hkey'
      clear hbx hen
      cases hp : pd kl (.lit (.int .i64 c)) <;> rw [hp] at hc
      · unfold kyV
        go_wp2_with (first
          | (go_at_fn gf; refine hc.mono ?_; rintro e w2 ⟨rfl, hg2⟩)
          | go_in)
        have hrg2 := hrgA.kept hg2 (by simp) (by simp)
        go_roundw
        case rel => exact ⟨_, cnt1, by rw [← Fk_stays hap (kyKeyed.key hkey) hlx hp hat]; exact hrg2, hgwA.andThen hg2 (fun j hj => by cases hj)⟩
        case measure => rw [hrg2.left_eq, hrg.left_eq]; exact hlt
      · unfold kyV
        go_wp2_with (first
          | (go_at_fn gf; refine hc.mono ?_; rintro e w2 ⟨rfl, hg2⟩; have hrg2 := hrgA.kept hg2 (by simp) (by simp); have k0 := (hg2.cell b0 (by simp)); have k1 := (hg2.cell b1 (by simp)); have k2 := (hg2.cell b2 (by simp)))
          | (at_delete; refine wpList_delete_ranges _ rfl _ _ 110 99 rfl 3 kyKeyed Tryz.underlying110 tokI g w.heap.size n _ _ _ rfl hrg2 _ _ rfl hkey' ?_; intro w3 cnt3 hrg3 hle hturn; go_frame)
          | go_in)
        rw [strike_twice] at hrg3
        go_roundw
        case rel => exact ⟨_, cnt3, by rw [← Fk_struck hap (kyKeyed.key hkey) hlx hp hat]; exact hrg3, (hgwA.andThen hg2 (fun j hj => by cases hj)).andThen hturn.grown (fun j hj => by cases hj; exact Or.inr rfl)⟩
        case measure => rw [hrg3.left_eq, hrg.left_eq]; omega
end Go.Proofs.YtlokhhjhckiloaaGreat.Of
/- offsets: Forget, by a contract. No condition. -/
namespace Go.Proofs.YtlokhhjhckiloaaGreat.Of
open Go.RowKit Go.Maps Go.ChangeMaps Go.WideMaps
set_option linter.unusedVariables false
/-- Is it a key of this group? -/
noncomputable def pdG (s : ByteArray) (kl : Lit) (_ : DataW Unit) : Bool := @decide (∃ k : KY, keyOf Tryz.prog 99 (kyV k) = some kl ∧ k.g = s) (Classical.propDecidable _)
theorem kyV_inj {k k' : KY} (h : kyV k = kyV k') : k = k' := by
  obtain ⟨g, t, i⟩ := k
  obtain ⟨g', t', i'⟩ := k'
  unfold kyV at h
  simp at h
  obtain ⟨rfl, rfl, rfl⟩ := h
  rfl
theorem pdG_of {s : ByteArray} {k : KY} {kl : Lit} {y : DataW Unit} (h : keyOf Tryz.prog 99 (kyV k) = some kl) : pdG s kl y = decide (k.g = s) := by
  unfold pdG
  rw [decide_eq_decide]
  constructor
  · rintro ⟨k', h', e⟩
    have := kyV_inj (kyKeyed.inj h' h)
    rw [← this]; exact e
  · intro e
    exact ⟨k, h, e⟩
def outG (F : List KE) (s : ByteArray) : List KE := F.filter fun e => !(decide (e.1.g = s))
theorem mapK_outG {F : List KE} (hF : ∀ e ∈ F, KyOk e.1) (s : ByteArray) : Lib.deleteFuncD (pdG s) (mapK F) = mapK (outG F s) := by
  unfold Lib.deleteFuncD mapK outG
  simp only
  congr 1
  rw [List.filter_map]
  congr 1
  refine List.filter_congr fun e he => ?_
  show (!pdG s (.string (kyB e.1)) (itD e)) = _
  rw [pdG_of (kyKey e.1 (hF e he))]
theorem str_eq (a b : ByteArray) : (a.toList == b.toList) = decide (a = b) := by
  rw [ByteArray.toList_eq, ByteArray.toList_eq]
  by_cases h : a = b
  · subst h; simp
  · rw [decide_eq_false h]
    simp only [beq_eq_false_iff_ne, ne_eq]
    intro e
    apply h
    apply ByteArray.ext
    exact Array.toList_inj.1 e
def GotRm (W : World) (p g : Nat) (room : Int) (F G : List KE) (en : Ending) (w' : World) : Prop := en = .returned (.int .i64 ((F.length : Int) - (G.length : Int))) ∧ OfIs w' p g room G ∧ Off (fun i => i = g) W w'
theorem outG_len (F : List KE) (s : ByteArray) : (outG F s).length ≤ F.length := List.length_filter_le _ _
end Go.Proofs.YtlokhhjhckiloaaGreat.Of
/- offsets: Forget, by a contract. No condition but that they are not too many. -/
namespace Go.Proofs.YtlokhhjhckiloaaGreat.Of
open Go.RowKit Go.Maps Go.ChangeMaps Go.WideMaps
set_option linter.unusedVariables false
theorem remove_nil (fn : Fn) (cb : Array Value) (W : World) : Calls Tryz.prog 88 #[.pointer none, .func fn #[] cb] W (fun e w' => e = .returned (.int .i64 0) ∧ Below W.heap.size W w') := by
  go_enter Tryz.func88, Tryz.ntmps88
  go_wp2_with fail
  go_ret
  exact ⟨rfl, (Below.refl _ _).alloc (Nat.le_refl _) _⟩
theorem drop_nil (s : ByteArray) (W : World) : Calls Tryz.prog 52 #[.pointer none, .string s] W (fun e w' => e = .returned (.int .i64 0) ∧ Below W.heap.size W w') := by
  have hB := (Below.refl W.heap.size W).alloc (Nat.le_refl _) (.cells #[.string s] 9)
  have HB := Lib.hid hB
  have hc := fun fn cb w => remove_nil fn cb w
  clear hB
  go_enter Tryz.func52, Tryz.ntmps52
  go_wp2_with fail
  with_reducible refine (hc _ _ _).mono ?_
  rintro en w1 ⟨rfl, hb⟩
  have HB1 := Lib.hid (HB.out.trans (hb.mono HB.out.size))
  clear hb
  go_wp2_with fail
  go_ret
  exact ⟨rfl, HB1.out⟩
end Go.Proofs.YtlokhhjhckiloaaGreat.Of
/- offsets: Drop, by a contract. No condition but that they are not too many. -/
namespace Go.Proofs.YtlokhhjhckiloaaGreat.Of
open Go.RowKit Go.Maps Go.ChangeMaps Go.WideMaps
set_option linter.unusedVariables false
/-- Is it a key of this topic? -/
noncomputable def pdT (s : ByteArray) (kl : Lit) (_ : DataW Unit) : Bool := @decide (∃ k : KY, keyOf Tryz.prog 99 (kyV k) = some kl ∧ k.t = s) (Classical.propDecidable _)
theorem pdT_of {s : ByteArray} {k : KY} {kl : Lit} {y : DataW Unit} (h : keyOf Tryz.prog 99 (kyV k) = some kl) : pdT s kl y = decide (k.t = s) := by
  unfold pdT
  rw [decide_eq_decide]
  constructor
  · rintro ⟨k', h', e⟩
    have := kyV_inj (kyKeyed.inj h' h)
    rw [← this]; exact e
  · intro e
    exact ⟨k, h, e⟩
theorem dr1_c (k : KY) (s : ByteArray) (b : Nat) (W : World) (hx : W.cell? ⟨b, 0, none⟩ = some (.string s)) (hb : b < W.heap.size) : Calls Tryz.prog 89 #[.agg #[.string k.g, .string k.t, .int .i64 k.i], .pointer (some ⟨b, 0, none⟩)] W (fun e w' => e = .returned (.bool (k.t.toList == s.toList)) ∧ W.grownBy w' none) := by
  have h2 : (W.alloc (.cells #[.string k.g, .string k.t, .int .i64 k.i] 99)).cell? ⟨b, 0, none⟩ = some (.string s) := (((Below.refl W.heap.size W).alloc (Nat.le_refl _) (.cells #[.string k.g, .string k.t, .int .i64 k.i] 99)).cell hb).trans hx
  go_enter Tryz.func89, Tryz.ntmps89
  go_wp2_with fail
  go_ret
  exact ⟨rfl, World.grownBy_alloc _ _ _⟩
def whichT (b : Nat) : Value := .func (.func 89) #[] #[.pointer (some ⟨b, 0, none⟩)]
theorem rt1_c (k : KY) (a : Int) (s : ByteArray) (b b2 : Nat) (W : World) (hx : W.cell? ⟨b, 0, none⟩ = some (.string s)) (hb : b < W.heap.size) (hy : W.cell? ⟨b2, 0, none⟩ = some (whichT b)) (hb2 : b2 < W.heap.size) :
    Calls Tryz.prog 114 #[.agg #[.string k.g, .string k.t, .int .i64 k.i], .int .i64 a, .pointer (some ⟨b2, 0, none⟩)] W (fun e w' => e = .returned (.bool (k.t.toList == s.toList)) ∧ W.grownBy w' none) := by
  have hB := (Below.refl W.heap.size W).alloc (Nat.le_refl _) (.cells #[.string k.g, .string k.t, .int .i64 k.i] 99)
  have h2 := (hB.cell hb).trans hx
  have h3 := (hB.cell hb2).trans hy
  have hz := hB.size
  have cf := dr1_c k s b _ h2 (by omega)
  have HG := Lib.hid (World.grownBy_alloc W (.cells #[.string k.g, .string k.t, .int .i64 k.i] 99) none)
  have hbx := Box.new W 99 #[.string k.g, .string k.t, .int .i64 k.i]
  have b0 := (hbx.cell 0).trans (show _ = some (Value.string k.g) from rfl)
  have b1 := (hbx.cell 1).trans (show _ = some (Value.string k.t) from rfl)
  have b2' := (hbx.cell 2).trans (show _ = some (Value.int .i64 k.i) from rfl)
  obtain ⟨r, hr⟩ : ∃ r, (k.t.toList == s.toList) = r := ⟨_, rfl⟩
  rw [hr] at cf ⊢
  unfold whichT at h3
  clear hB hx hy hbx hr hz
  go_enter Tryz.func114, Tryz.ntmps114
  go_wp2_with fail
  with_reducible refine cf.mono ?_
  rintro en w1 ⟨rfl, hg⟩
  have HG1 := Lib.hid (HG.out.andThen hg (fun j hj => by cases hj))
  clear hg
  go_wp2_with fail
  go_ret
  exact ⟨rfl, HG1.out⟩
def outT (F : List KE) (s : ByteArray) : List KE := F.filter fun e => !(decide (e.1.t = s))
theorem mapK_outT {F : List KE} (hF : ∀ e ∈ F, KyOk e.1) (s : ByteArray) : Lib.deleteFuncD (pdT s) (mapK F) = mapK (outT F s) := by
  unfold Lib.deleteFuncD mapK outT
  simp only
  congr 1
  rw [List.filter_map]
  congr 1
  refine List.filter_congr fun e he => ?_
  show (!pdT s (.string (kyB e.1)) (itD e)) = _
  rw [pdT_of (kyKey e.1 (hF e he))]
theorem outT_len (F : List KE) (s : ByteArray) : (outT F s).length ≤ F.length := List.length_filter_le _ _
set_option maxHeartbeats 4000000 in
set_option maxRecDepth 100000 in
theorem removeT_c (p g : Nat) (room : Int) (F : List KE) (s : ByteArray) (b : Nat) (W : World) (h : OfIs W p g room F) (hl : F.length ≤ 1000000) (hF : ∀ e ∈ F, KyOk e.1) (hx : W.cell? ⟨b, 0, none⟩ = some (.string s)) (hb : b < W.heap.size) (hbg : b ≠ g) :
    Calls Tryz.prog 88 #[.pointer (some ⟨p, 0, none⟩), whichT b] W (GotRm W p g room F (outT F s)) := by
  have hB := (Below.refl W.heap.size W).alloc (Nat.le_refl _) (.cells #[whichT b] 138)
  have h1 := h.later hB
  obtain ⟨c0, c1, cl⟩ := h1.cells
  have hln := fun ty => len_run h1 ty
  have hx1 := (hB.cell hb).trans hx
  have hy1 : (W.alloc (.cells #[whichT b] 138)).cell? ⟨W.heap.size, 0, none⟩ = some (whichT b) := ((Box.new W 138 #[whichT b]).cell 0).trans rfl
  have hgl := h.map.lt
  have hz := hB.size
  have hzz : (W.alloc (.cells #[whichT b] 138)).heap.size = W.heap.size + 1 := by simp
  have eg : ∀ args w, (callFunc 114 args).run Tryz.prog w = .ok (.enter 114 args) w := enters_of Tryz.func114 (by kernel_rfl) rfl
  have hcon := dfun_c (pdT s) 114 #[.pointer (some ⟨W.heap.size, 0, none⟩)] g F.length (mapK F) _ eg h1.map (fun V k a kl hg hk => by
    have := rt1_c k a s b W.heap.size V (hg.cell hx1 (fun e => hbg (Option.some.inj e))) (Nat.lt_of_lt_of_le (by omega) hg.size) (hg.cell hy1 (fun e => by have := Option.some.inj e; simp at this; omega)) (Nat.lt_of_lt_of_le (by omega) hg.size)
    rw [str_eq] at this
    rw [pdT_of hk]
    exact this)
  rw [mapK_outT hF] at hcon
  have H1 := Lib.hid h1
  have HO := Lib.hid (Off.of_below (fun i => i = g) hB)
  have hgl2 := outT_len F s
  clear hB h h1 hx hx1 hy1 hz hzz hF hb hbg hgl
  unfold whichT at *
  go_enter Tryz.func88, Tryz.ntmps88
  go_wp2_with fail
  with_reducible refine hcon.mono ?_
  rintro en w1 ⟨rfl, hm, hg⟩
  have hn1 := box_ne_map H1.out.box H1.out.map
  have HR : Hid (OfIs w1 p g room (outT F s)) := Lib.hid ⟨(hg.block p H1.out.box.lt (fun e => hn1 (Option.some.inj e))).trans H1.out.box, map_tight hm, H1.out.rise.sublist List.filter_sublist⟩
  have HO2 := Lib.hid (HO.out.grown hg (fun i hi _ => by injection hi with hi; exact hi.symm))
  obtain ⟨d0, d1, dl⟩ := HR.out.cells
  have hln2 := fun ty => len_run HR.out ty
  clear hm hg hcon hln c0 c1
  go_wp2_with fail
  go_ret
  refine ⟨?_, HR.out, HO2.out⟩
  first
    | rfl
    | (congr 1; go_num)
set_option maxHeartbeats 4000000 in
set_option maxRecDepth 100000 in
theorem drop_c (p g : Nat) (room : Int) (F : List KE) (s : ByteArray) (W : World) (h : OfIs W p g room F) (hl : F.length ≤ 1000000) (hF : ∀ e ∈ F, KyOk e.1) :
    Calls Tryz.prog 52 #[.pointer (some ⟨p, 0, none⟩), .string s] W (GotRm W p g room F (outT F s)) := by
  have hB := (Below.refl W.heap.size W).alloc (Nat.le_refl _) (.cells #[.string s] 9)
  have hx : (W.alloc (.cells #[.string s] 9)).cell? ⟨W.heap.size, 0, none⟩ = some (.string s) := ((Box.new W 9 #[.string s]).cell 0).trans rfl
  have hgl := h.map.lt
  have hc := removeT_c p g room F s W.heap.size _ (h.later hB) hl hF hx (by simp) (by omega)
  have HO := Lib.hid (Off.of_below (fun i => i = g) hB)
  unfold whichT at hc
  clear hB h hx hF hgl
  go_enter Tryz.func52, Tryz.ntmps52
  go_wp2_with fail
  with_reducible refine hc.mono ?_
  rintro en w1 ⟨rfl, h1, ho⟩
  have H1 := Lib.hid h1
  have HO1 := Lib.hid (HO.out.trans ho (fun i _ x => x))
  clear h1 ho hc
  go_wp2_with fail
  go_ret
  exact ⟨rfl, H1.out, HO1.out⟩
end Go.Proofs.YtlokhhjhckiloaaGreat.Of
/- coord: each call, and what else stays as it was. No condition but that calls are not too many. -/
namespace Go.Proofs.YtlokhhjhckiloaaGreat
open Go.RowKit Go.Maps Go.ChangeMaps Go.WideMaps
set_option linter.unusedVariables false
/-- What a call leaves. -/
def CK (W w0 : World) (p g o og : Nat) (k ss rb : Int) (F : List CE) (st : List UInt8 → Option GD) (O : List Of.KE) (w' : World) : Prop :=
  KeepP w0 w' ∧ ∃ V' D', CO W w' p g o og k ss rb F F V' D' O ∧ ∀ n, gv F D' n = st n
def beaCE (g : Option GD) (m gen now : Int) : Int := match g with | some G => beatE m gen now G | none => 11
def sycE (g : Option GD) (m gen : Int) (T : List TX) (now : Int) : Int := match g with | some G => syncE m gen T now G | none => 11
def sycP (g : Option GD) (m gen : Int) (T : List TX) (round : Bool) (now : Int) : List TX := match g with | some G => syncP m gen T round now G | none => []
section
variable {W w w' : World} {p g o og : Nat} {k ss rb : Int} {F : List CE} {V : Nat → Value} {D : Nat → GD} {O : List Of.KE}
theorem CK.stay {j : Int} (h : CO W w p g o og k ss rb F F V D O) (hj : k ≤ j) {s : List UInt8} {f : GD → GD} (hs : gv F D s = none) : CK W w p g o og j ss rb F (putSt (gv F D) s ((gv F D s).map f)) O w :=
  ⟨KeepP.of_below (Below.refl _ _), V, D, h.bump hj, fun x => by
    unfold putSt
    split
    · rename_i hx
      rw [hx, hs]
      rfl
    · rfl⟩
theorem CK.call {e : CE} {v' : Value} {j : Int} {f : GD → GD} (h : CO W w p g o og k ss rb F F V D O) (he : e ∈ F) (h' : GO W w' e.blk v' j (f (D e.blk))) (ho : Off (GrS e.blk (V e.blk)) w w') (hv : ∀ i, v'.ownBlock = some i → (V e.blk).ownBlock = some i ∨ w.heap.size ≤ i) (hj : k ≤ j) :
    CK W w p g o og j ss rb F (putSt (gv F D) e.name (some (f (D e.blk)))) O w' := by
  obtain ⟨R, hR⟩ := (h.grp e he).is
  refine ⟨keep_grp hR ho, _, _, h.call he h' ho hv hj, fun x => ?_⟩
  rw [gv_upd h he]
  unfold putSt
  split
  · rfl
  · rfl
set_option maxHeartbeats 4000000 in
set_option maxRecDepth 100000 in
theorem leave_k (h : CO W w p g o og k ss rb F F V D O) (hk : k ≤ 999000) (s : ByteArray) (hs : s.size ≤ maxLen) (m now : Int) : Calls Tryz.prog 17 #[.pointer (some ⟨p, 0, none⟩), .string s, .int .i64 m, .int .i64 now] w (fun e w' => e = .returned (.int .i64 (leaCE (gv F D s.data.toList) m now)) ∧ CK W w p g o og (k + 1) ss rb F (putSt (gv F D) s.data.toList ((gv F D s.data.toList).map (leaveD m now))) O w') := by
  cases hf : ofN F s.data.toList with
  | none =>
    have cf := cfind_none h s hs hf
    have hst : gv F D s.data.toList = none := by unfold gv; rw [hf]; rfl
    have HH := Lib.hid (CK.stay (j := k + 1) (f := leaveD m now) h (by omega) hst)
    have HST := Lib.hid hst
    clear h hf hst
    go_enter Tryz.func17, Tryz.ntmps17
    go_wp2_with fail
    with_reducible refine cf.mono ?_
    rintro en w2 ⟨rfl, rfl⟩
    go_wp2_with fail
    go_ret
    exact ⟨by rw [HST.out]; rfl, HH.out⟩
  | some e0 =>
    have he := (ofN_mem hf).1
    have cf := cfind_some h s hs hf
    have ck := leave_v (h.grp e0 he) hk m now
    have HST : Hid (gv F D s.data.toList = some (D e0.blk)) := Lib.hid (by unfold gv; rw [hf]; rfl)
    have HH := Lib.hid h
    have HE := Lib.hid (And.intro he (ofN_mem hf).2)
    clear h hf he
    rw [HST.out]
    show Calls _ _ _ _ (fun e w' => e = .returned (.int .i64 (leaveE m now (D e0.blk))) ∧ _)
    go_enter Tryz.func17, Tryz.ntmps17
    go_wp2_with fail
    with_reducible refine cf.mono ?_
    rintro en w2 ⟨rfl, rfl⟩
    go_wp2_with fail
    with_reducible refine ck.mono ?_
    rintro en w3 ⟨rfl, v', b1, b2, b3⟩
    have HC := Lib.hid (CK.call (f := leaveD m now) HH.out HE.out.1 b1 b2 b3 (by omega))
    clear ck b1 b2 b3
    go_wp2_with fail
    go_ret
    have := HC.out
    rw [HE.out.2] at this
    exact ⟨rfl, this⟩
set_option maxHeartbeats 4000000 in
set_option maxRecDepth 100000 in
theorem beat_k (h : CO W w p g o og k ss rb F F V D O) (s : ByteArray) (hs : s.size ≤ maxLen) (m gen now : Int) : Calls Tryz.prog 16 #[.pointer (some ⟨p, 0, none⟩), .string s, .int .i64 m, .int .i64 gen, .int .i64 now] w (fun e w' => e = .returned (.int .i64 (beaCE (gv F D s.data.toList) m gen now)) ∧ CK W w p g o og k ss rb F (putSt (gv F D) s.data.toList ((gv F D s.data.toList).map (beatD m gen now))) O w') := by
  cases hf : ofN F s.data.toList with
  | none =>
    have cf := cfind_none h s hs hf
    have hst : gv F D s.data.toList = none := by unfold gv; rw [hf]; rfl
    have HH := Lib.hid (CK.stay (j := k) (f := beatD m gen now) h (by omega) hst)
    have HST := Lib.hid hst
    clear h hf hst
    go_enter Tryz.func16, Tryz.ntmps16
    go_wp2_with fail
    with_reducible refine cf.mono ?_
    rintro en w2 ⟨rfl, rfl⟩
    go_wp2_with fail
    go_ret
    exact ⟨by rw [HST.out]; rfl, HH.out⟩
  | some e0 =>
    have he := (ofN_mem hf).1
    have cf := cfind_some h s hs hf
    have ck := beat_v (h.grp e0 he) m gen now
    have HST : Hid (gv F D s.data.toList = some (D e0.blk)) := Lib.hid (by unfold gv; rw [hf]; rfl)
    have HH := Lib.hid h
    have HE := Lib.hid (And.intro he (ofN_mem hf).2)
    clear h hf he
    rw [HST.out]
    show Calls _ _ _ _ (fun e w' => e = .returned (.int .i64 (beatE m gen now (D e0.blk))) ∧ _)
    go_enter Tryz.func16, Tryz.ntmps16
    go_wp2_with fail
    with_reducible refine cf.mono ?_
    rintro en w2 ⟨rfl, rfl⟩
    go_wp2_with fail
    with_reducible refine ck.mono ?_
    rintro en w3 ⟨rfl, v', b1, b2, b3⟩
    have HC := Lib.hid (CK.call (f := beatD m gen now) HH.out HE.out.1 b1 b2 b3 (by omega))
    clear ck b1 b2 b3
    go_wp2_with fail
    go_ret
    have := HC.out
    rw [HE.out.2] at this
    exact ⟨rfl, this⟩
set_option maxHeartbeats 4000000 in
set_option maxRecDepth 100000 in
theorem sync_k (h : CO W w p g o og k ss rb F F V D O) (s : ByteArray) (hs : s.size ≤ maxLen) (m gen now : Int) (T : List TX) (A2 : Option Addr) (c2 : Nat) (round : Bool) (hT : TpIn w A2 T) (hTl : T.length ≤ 140737488351232) (hTz : ∀ t ∈ T, t.1.size ≤ 281474976710656) (hTS : 0 < T.length → ∀ a, A2 = some a → ∀ e ∈ F, ¬ GrS e.blk (V e.blk) a.block) :
    Calls Tryz.prog 13 #[.pointer (some ⟨p, 0, none⟩), .string s, .int .i64 m, .int .i64 gen, .slice A2 T.length c2, .bool round, .int .i64 now] w (fun e w' => ∃ A c, e = .returned (.tuple #[.slice A (sycP (gv F D s.data.toList) m gen T round now).length c, .int .i64 (sycE (gv F D s.data.toList) m gen T now)]) ∧ w'.ownsRow w.heap.size 34 2 (.slice A (sycP (gv F D s.data.toList) m gen T round now).length c) (sycP (gv F D s.data.toList) m gen T round now).length (prtC (sycP (gv F D s.data.toList) m gen T round now)) ∧
      CK W w p g o og k ss rb F (putSt (gv F D) s.data.toList ((gv F D s.data.toList).map (syncD m gen T round now))) O w') := by
  cases hf : ofN F s.data.toList with
  | none =>
    have cf := cfind_none h s hs hf
    have hst : gv F D s.data.toList = none := by unfold gv; rw [hf]; rfl
    have HH := Lib.hid (CK.stay (j := k) (f := syncD m gen T round now) h (by omega) hst)
    have HST := Lib.hid hst
    clear h hf hst
    go_enter Tryz.func13, Tryz.ntmps13
    go_wp2_with fail
    with_reducible refine cf.mono ?_
    rintro en w2 ⟨rfl, rfl⟩
    go_wp2_with fail
    go_ret2
    have := HH.out
    rw [HST.out] at this ⊢
    exact ⟨none, 0, rfl, World.ownsRow_nil _ _ _ _, this⟩
  | some e0 =>
    have he := (ofN_mem hf).1
    have cf := cfind_some h s hs hf
    have ck := sync_v (h.grp e0 he) m gen now T A2 c2 round hT hTl hTz (fun hp a ha => hTS hp a ha e0 he)
    have HST : Hid (gv F D s.data.toList = some (D e0.blk)) := Lib.hid (by unfold gv; rw [hf]; rfl)
    have HH := Lib.hid h
    have HE := Lib.hid (And.intro he (ofN_mem hf).2)
    clear h hf he hTS hT
    rw [HST.out]
    show Calls _ _ _ _ (fun e w' => ∃ A c, e = .returned (.tuple #[.slice A (syncP m gen T round now (D e0.blk)).length c, .int .i64 (syncE m gen T now (D e0.blk))]) ∧ w'.ownsRow w.heap.size 34 2 (.slice A (syncP m gen T round now (D e0.blk)).length c) (syncP m gen T round now (D e0.blk)).length (prtC (syncP m gen T round now (D e0.blk))) ∧ _)
    go_enter Tryz.func13, Tryz.ntmps13
    go_wp2_with fail
    with_reducible refine cf.mono ?_
    rintro en w2 ⟨rfl, rfl⟩
    go_wp2_with fail
    with_reducible refine ck.mono ?_
    rintro en w3 ⟨A, c, rfl, hr, v', b1, b2, b3⟩
    have HC := Lib.hid (CK.call (f := syncD m gen T round now) HH.out HE.out.1 b1 b2 b3 (by omega))
    have HR := Lib.hid hr
    clear ck b1 b2 b3 hr
    go_wp2_with fail
    go_ret2
    have := HC.out
    rw [HE.out.2] at this
    exact ⟨A, c, rfl, HR.out, this⟩
end
end Go.Proofs.YtlokhhjhckiloaaGreat
/- coord: Join, Commit, Committed, Drop, Tick, and what else stays as it was. No condition but that calls are not too many. -/
namespace Go.Proofs.YtlokhhjhckiloaaGreat
open Go.RowKit Go.Maps Go.ChangeMaps Go.WideMaps
set_option linter.unusedVariables false
section
variable {W w w' : World} {p g o og : Nat} {k ss rb : Int} {F : List CE} {V : Nat → Value} {D : Nat → GD} {O : List Of.KE}
set_option maxHeartbeats 4000000 in
set_option maxRecDepth 100000 in
theorem commit_k (h : CO W w p g o og k ss rb F F V D O) (s t : ByteArray) (i a : Int) : Calls Tryz.prog 19 #[.pointer (some ⟨p, 0, none⟩), .string s, .agg #[.string t, .int .i64 i], .int .i64 a] w (fun e w' => e = .returned (.int .i64 (Of.coR 1000 O ⟨s, t, i⟩ a)) ∧ CK W w p g o og k ss rb F (gv F D) (Of.coS 1000 O ⟨s, t, i⟩ a) w') := by
  have hA : Below w.heap.size w (w.alloc (.cells #[.string t, .int .i64 i] 34)) := (Below.refl _ _).alloc (Nat.le_refl _) _
  have hd : Below w.heap.size w (w.alloc (.cells #[.string t, .int .i64 i] 34)).drew := hA.drew
  have h' := h.later hd
  have cc := Of.commit_v h'.ot ⟨s, t, i⟩ a
  obtain ⟨c0, c1, c2, c3, cl⟩ := (h.later hA).is.cells
  have hbx := Box.new w 34 #[.string t, .int .i64 i]
  have z0 := (hbx.cell 0).trans (show _ = some (Value.string t) from rfl)
  have z1 := (hbx.cell 1).trans (show _ = some (Value.int .i64 i) from rfl)
  have hp : p ≠ og := box_ne_map h'.is.box h'.ot.is.map
  have hn : w.heap.size ≠ og := box_ne_map (w := (w.alloc (.cells #[.string t, .int .i64 i] 34)).drew) hbx.drew h'.ot.is.map
  have HK : Hid (∀ w', Of.Wr W o og 1000 (Of.coS 1000 O ⟨s, t, i⟩ a) (w.alloc (.cells #[.string t, .int .i64 i] 34)).drew w' → w'.cell? ⟨p, 3, none⟩ = some (.pointer (some ⟨o, 0, none⟩)) ∧ w'.cell? ⟨w.heap.size, 0, none⟩ = some (.string t) ∧ w'.cell? ⟨w.heap.size, 1, none⟩ = some (.int .i64 i)) := Lib.hid (fun w' hw => ⟨(hw.off.cell (p := ⟨p, 3, none⟩) cl hp).trans c3, (hw.off.cell (p := ⟨w.heap.size, 0, none⟩) hbx.lt hn).trans z0, (hw.off.cell (p := ⟨w.heap.size, 1, none⟩) hbx.lt hn).trans z1⟩)
  have HC := Lib.hid h'
  have HD := Lib.hid hd
  clear h hA hd h' hbx c0 c1 c2
  go_enter Tryz.func19, Tryz.ntmps19
  go_wp2_with fail
  go_region_held3 (fun wq => wq.cell? ⟨p, 3, none⟩ = some (.pointer (some ⟨o, 0, none⟩)) ∧ wq.cell? ⟨w.heap.size, 0, none⟩ = some (.string t) ∧ wq.cell? ⟨w.heap.size, 1, none⟩ = some (.int .i64 i))
    (first | exact ⟨c3, z0, z1⟩ | exact HK.out _ (by assumption))
    (first | ((with_reducible refine cc.mono ?_); rintro en w3 ⟨rfl, hw3⟩))
  all_goals
    have HW : Hid (CK W w p g o og k ss rb F (gv F D) (Of.coS 1000 O ⟨s, t, i⟩ a) w3) := Lib.hid ⟨(KeepP.of_below HD.out).trans (keep_map HC.out.ot.is.map hw3.off), V, D, HC.out.offs (by assumption), fun n => rfl⟩
    clear hw3 cc
    go_wp2_with fail
    go_ret
    exact ⟨rfl, HW.out⟩
set_option maxHeartbeats 4000000 in
set_option maxRecDepth 100000 in
theorem committed_k (h : CO W w p g o og k ss rb F F V D O) (s t : ByteArray) (i : Int) (hk : Of.KyOk ⟨s, t, i⟩) : Calls Tryz.prog 14 #[.pointer (some ⟨p, 0, none⟩), .string s, .agg #[.string t, .int .i64 i]] w (fun e w' => e = .returned (.tuple #[.int .i64 (Of.geR O ⟨s, t, i⟩).1, .bool (Of.geR O ⟨s, t, i⟩).2]) ∧ Below w.heap.size w w') := by
  have hA : Below w.heap.size w (w.alloc (.cells #[.string t, .int .i64 i] 34)) := (Below.refl _ _).alloc (Nat.le_refl _) _
  have hd : Below w.heap.size w (w.alloc (.cells #[.string t, .int .i64 i] 34)).drew := hA.drew
  have cc := Of.get_v (h.later hd).ot ⟨s, t, i⟩ hk
  obtain ⟨c0, c1, c2, c3, cl⟩ := (h.later hA).is.cells
  have hbx := Box.new w 34 #[.string t, .int .i64 i]
  have z0 := (hbx.cell 0).trans (show _ = some (Value.string t) from rfl)
  have z1 := (hbx.cell 1).trans (show _ = some (Value.int .i64 i) from rfl)
  have HK : Hid (∀ w', Below (w.alloc (.cells #[.string t, .int .i64 i] 34)).drew.heap.size (w.alloc (.cells #[.string t, .int .i64 i] 34)).drew w' → w'.cell? ⟨p, 3, none⟩ = some (.pointer (some ⟨o, 0, none⟩)) ∧ w'.cell? ⟨w.heap.size, 0, none⟩ = some (.string t) ∧ w'.cell? ⟨w.heap.size, 1, none⟩ = some (.int .i64 i)) := Lib.hid (fun w' hw => ⟨(hw.cell (p := ⟨p, 3, none⟩) cl).trans c3, (hw.cell (p := ⟨w.heap.size, 0, none⟩) hbx.lt).trans z0, (hw.cell (p := ⟨w.heap.size, 1, none⟩) hbx.lt).trans z1⟩)
  have HD := Lib.hid hd
  clear h hA hd hbx c0 c1 c2
  go_enter Tryz.func14, Tryz.ntmps14
  go_wp2_with fail
  go_region_held3 (fun wq => wq.cell? ⟨p, 3, none⟩ = some (.pointer (some ⟨o, 0, none⟩)) ∧ wq.cell? ⟨w.heap.size, 0, none⟩ = some (.string t) ∧ wq.cell? ⟨w.heap.size, 1, none⟩ = some (.int .i64 i))
    (first | exact ⟨c3, z0, z1⟩ | exact HK.out _ (by assumption))
    (first | ((with_reducible refine cc.mono ?_); rintro en w3 ⟨rfl, hw3⟩))
  all_goals
    have HW : Hid (Below w.heap.size w w3) := Lib.hid (HD.out.trans (hw3.mono HD.out.size))
    clear hw3 cc
    go_wp2_with fail
    go_ret2
    exact ⟨rfl, HW.out⟩
theorem drop_v {W0 w : World} {p g : Nat} {room : Int} {F : List Of.KE} (h : Of.OT W0 p g room F w) (s : ByteArray) :
    Calls Tryz.prog 52 #[.pointer (some ⟨p, 0, none⟩), .string s] w (fun e w' => e = .returned (.int .i64 ((F.length : Int) - ((Of.outT F s).length : Int))) ∧ Of.Wr W0 p g room (Of.outT F s) w w') :=
  (Of.drop_c p g room F s w h.is h.ok.many h.ok.keys).mono fun e w' ⟨he, h1, h2⟩ => ⟨he, ⟨h1, h.hp, h.hg, h.ok.sub (fun e he => (List.mem_filter.1 he).1) (Of.outT_len F s)⟩, h2⟩
set_option maxHeartbeats 4000000 in
set_option maxRecDepth 100000 in
theorem drop_k (h : CO W w p g o og k ss rb F F V D O) (s : ByteArray) : Calls Tryz.prog 20 #[.pointer (some ⟨p, 0, none⟩), .string s] w (fun e w' => e = .returned (.int .i64 ((O.length : Int) - ((Of.outT O s).length : Int))) ∧ CK W w p g o og k ss rb F (gv F D) (Of.outT O s) w') := by
  have cc := drop_v h.ot s
  obtain ⟨c0, c1, c2, c3, cl⟩ := h.is.cells
  have HC := Lib.hid h
  clear h c0 c1 c2
  go_enter Tryz.func20, Tryz.ntmps20
  go_wp2_with fail
  with_reducible refine cc.mono ?_
  rintro en w3 ⟨rfl, hw3⟩
  have HW : Hid (CK W w p g o og k ss rb F (gv F D) (Of.outT O s) w3) := Lib.hid ⟨keep_map HC.out.ot.is.map hw3.off, V, D, HC.out.offs hw3, fun n => rfl⟩
  clear hw3 cc
  go_wp2_with fail
  go_ret
  exact ⟨rfl, HW.out⟩
theorem tick_k (h : CO W w p g o og k ss rb F F V D O) (hk : k ≤ 998000) (now : Int) : Calls Tryz.prog 15 #[.pointer (some ⟨p, 0, none⟩), .int .i64 now] w (fun e w' => e = .returned (.tuple #[]) ∧ CK W w p g o og (k + 40) ss rb F (fun s => (gv F D s).map (tickD now)) O w') := by
  refine (ctick_c now h hk).mono ?_
  rintro e w' ⟨rfl, hkp, V', D', h', hD⟩
  refine ⟨rfl, hkp, V', D', h', fun s => ?_⟩
  show gv F D' s = (gv F D s).map (tickD now)
  unfold gv
  cases hf : ofN F s with
  | none => rfl
  | some e => exact congrArg some (hD e (ofN_mem hf).1)
end
end Go.Proofs.YtlokhhjhckiloaaGreat
