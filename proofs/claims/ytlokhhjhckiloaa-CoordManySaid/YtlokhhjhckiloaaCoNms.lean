/- coord: names in their order: plain words. No condition. -/
import Derived.Test.YtlokhhjhckiloaaCoFn
import Derived.Sort.Walk0
import Derived.Test.YtlokhhjhckiloaaIter
import Derived.BigQuiet
import Derived.RangeFuncNested
import Derived.RangeFuncBound
import Derived.RangeFuncCalls
import Derived.RangeFuncLeaves
import Derived.RangeFuncBox
import Derived.OwnWalkIn
import Derived.TacticsInMore
import Derived.LoopNIn
import Derived.LoopIn
import Derived.Maps.AppendAt
import Derived.Deep.AppendLies
namespace Go.Proofs.Ytlokhhjhckiloaa
open Go.RowKit Go.Maps Go.ChangeMaps Go.WideMaps Go.WideShapes Go.WideAt
set_option linter.unusedVariables false
theorem before_lt : ∀ a b : List UInt8, bytesBefore a b = true ↔ a < b
  | [], [] => by
    constructor
    · intro h; cases h
    · intro h; exact absurd h (List.not_lt_nil _)
  | [], b :: s => ⟨fun _ => List.nil_lt_cons _ _, fun _ => rfl⟩
  | a :: r, [] => by
    constructor
    · intro h; cases h
    · intro h; exact absurd h (List.not_lt_nil _)
  | a :: r, b :: s => by
    rw [show bytesBefore (a :: r) (b :: s) = (decide (a.toNat < b.toNat) || (a == b && bytesBefore r s)) from rfl, List.cons_lt_cons_iff, ← before_lt r s]
    simp only [Bool.or_eq_true, Bool.and_eq_true, decide_eq_true_eq, beq_iff_eq, UInt8.lt_iff_toNat_lt]
theorem bytes_asymm {a b : List UInt8} (h : bytesBefore a b = true) : bytesBefore b a = false := by
  cases k : bytesBefore b a with
  | false => rfl
  | true => have := bytes_trans' h k; rw [bytes_irrefl] at this; cases this
theorem le_before (a b : List UInt8) : decide (a ≤ b) = !bytesBefore b a := by
  rw [Bool.eq_iff_iff]
  simp only [decide_eq_true_eq, Bool.not_eq_true']
  rw [← List.not_lt, ← before_lt]
  simp
/-- Names that rise are as they are sorted. -/
theorem sort_names {F : List CE} (hs : F.Pairwise fun f g => bytesBefore f.name g.name = true) {ss : List (List UInt8)} (hp : ss.Perm (F.map (·.name))) : ss.mergeSort (fun x y => decide (x ≤ y)) = F.map (·.name) := by
  have hF : (F.map (·.name)).Pairwise fun a b => decide (a ≤ b) = true := by
    rw [List.pairwise_map]
    refine hs.imp fun {a b} h => ?_
    rw [le_before, bytes_asymm h]
    rfl
  refine List.Perm.eq_of_pairwise (le := fun a b => decide (a ≤ b) = true) (fun a b _ _ h k => ?_) (List.pairwise_mergeSort (fun a b c h k => ?_) (fun a b => ?_) ss) hF ((List.mergeSort_perm ss _).trans hp)
  · rw [le_before] at h k
    by_cases e : a = b
    · exact e
    · rcases bytes_total a b e with q | q
      · rw [q] at k; cases k
      · rw [q] at h; cases h
  · rw [decide_eq_true_eq] at *
    exact List.le_trans h k
  · rw [Bool.or_eq_true, decide_eq_true_eq, decide_eq_true_eq]
    exact List.le_total a b
/-- A name as a text. -/
def nmA (e : CE) : ByteArray := ⟨e.name.toArray⟩
theorem nmA_list (e : CE) : (nmA e).data.toList = e.name := by unfold nmA; simp
theorem nmA_size (e : CE) : (nmA e).size = e.name.length := by
  show e.name.toArray.size = _
  simp
def nmsV (F : List CE) : List Value := F.map fun e => .string (nmA e)
end Go.Proofs.Ytlokhhjhckiloaa
/- coord: all: whoever goes through the groups is told each by its name, in their order. No condition but that they are not too many. -/
namespace Go.Proofs.Ytlokhhjhckiloaa
open Go.RowKit Go.Maps Go.ChangeMaps Go.WideMaps Go.Sort Go.Shelf
set_option linter.unusedVariables false
/-- What a round may write: Z tells it of a heap; all else that is cells, or that lies below B, is as it was. -/
structure KpZ (Z : World → Nat → Prop) (B : Nat) (W W' : World) : Prop where
  size : W.heap.size ≤ W'.heap.size
  same : ∀ k o, W.heap[k]? = some o → (o.isCells = true ∨ k < B) → ¬ Z W k → W'.heap[k]? = some o
  z : ∀ k, Z W' k → Z W k ∨ W.heap.size ≤ k
theorem KpZ.trans {Z : World → Nat → Prop} {B : Nat} {W1 W2 W3 : World} (h : KpZ Z B W1 W2) (k : KpZ Z B W2 W3) : KpZ Z B W1 W3 := by
  refine ⟨Nat.le_trans h.size k.size, fun i o hi ho hz => ?_, fun i hi => ?_⟩
  · refine k.same i o (h.same i o hi ho hz) ho (fun h2 => ?_)
    have hlt : i < W1.heap.size := (Array.getElem?_eq_some_iff.1 hi).1
    rcases h.z i h2 with e | e
    · exact hz e
    · omega
  · have := h.size
    rcases k.z i hi with e | e
    · exact h.z i e
    · exact .inr (by omega)
theorem own_same {w w' : World} {base t size n : Nat} {v : Value} {xs : List Value} (h : w.ownsRow base t size v n xs) (hs : ∀ k, v.ownBlock = some k → w'.heap[k]? = w.heap[k]?) : w'.ownsRow base t size v n xs := by
  refine ⟨h.1, ?_⟩
  rcases h.2 with h0 | ⟨g, cap, cur, rfl, hb, hg, hr⟩
  · exact .inl h0
  · exact .inr ⟨g, cap, cur, rfl, hb, (hs g rfl).trans hg, hr⟩
theorem CoIs.same {w w' : World} {p g o : Nat} {ss rb : Int} {F : List CE} (h : CoIs w p g o ss rb F) (hp : w'.heap[p]? = w.heap[p]?) (hg : w'.heap[g]? = w.heap[g]?) : CoIs w' p g o ss rb F := by
  refine ⟨hp.trans h.box, ?_, h.rise⟩
  obtain ⟨es, clock, hb, Ft, hs, hD⟩ := h.map
  exact ⟨es, clock, hg.trans hb, Ft, hs, hD⟩
/-- Going through them under way. -/
structure ItZ (Z : World → Nat → Prop) (w3 : World) (ks : List Nat) (F : List CE) (J : List CE → World → Prop) (i : Nat) (wr : World) : Prop where
  le : i ≤ F.length
  j : J (F.take i) wr
  same : ∀ k ∈ ks, wr.heap[k]? = w3.heap[k]? ∧ ¬ Z wr k
  size : w3.heap.size ≤ wr.heap.size
theorem ab_below {β : Type} {B : Nat} {J : β → World → Prop} (hJ : AbidesFrom B J) {s : β} {W W' : World} (h : J s W) (hb : Below W.heap.size W W') : J s W' :=
  hJ s W W' none h ⟨hb.os, hb.tape, hb.output, hb.size, fun k hk _ => hb.block k hk⟩ (fun r e => by cases e)
section
variable {Z : World → Nat → Prop} {w3 wr w' : World} {ks : List Nat} {F : List CE} {J : List CE → World → Prop} {i B : Nat}
theorem ItZ.step {x : CE} (h : ItZ Z w3 ks F J i wr) (hx : F[i]? = some x) (hJ : J (F.take i ++ [x]) w') (hk : KpZ Z B wr w') (hks : ∀ k ∈ ks, ∃ o, w3.heap[k]? = some o ∧ (o.isCells = true ∨ k < B)) : ItZ Z w3 ks F J (i + 1) w' := by
  have hi := (List.getElem?_eq_some_iff.1 hx).1
  refine ⟨hi, by rw [List.take_add_one, hx]; exact hJ, fun k hkm => ?_, Nat.le_trans h.size hk.size⟩
  obtain ⟨o, ho, hoc⟩ := hks k hkm
  obtain ⟨h1, h2⟩ := h.same k hkm
  have hlt : k < wr.heap.size := Nat.lt_of_lt_of_le (Array.getElem?_eq_some_iff.1 ho).1 h.size
  refine ⟨(hk.same k o (h1.trans ho) hoc h2).trans ho.symm, fun h3 => ?_⟩
  rcases hk.z k h3 with e | e
  · exact h2 e
  · omega
end
theorem strKeys_mapC (F : List CE) : strKeys (mapC F) = F.map (·.name) := by
  unfold mapC
  show (F.map entC).map (fun p => strOf p.1) = _
  rw [List.map_map]
  rfl
theorem csorted_c {w : World} {p g o : Nat} {ss rb : Int} {F : List CE} (h : CoIs w p g o ss rb F) (hlen : F.length ≤ 1000000) :
    Calls Try.prog 38 #[.func (.func 55) #[] #[.pointer (some ⟨w.heap.size, 0, none⟩)]] (w.alloc (.cells #[.map (some g)] 51)) (fun e w' => ∃ v, e = .returned v ∧ w'.ownsRow (w.alloc (.cells #[.map (some g)] 51)).heap.size 9 1 v F.length (nmsV F) ∧ Below (w.alloc (.cells #[.map (some g)] 51)).heap.size (w.alloc (.cells #[.map (some g)] 51)) w') := by
  refine ((callsIn_wide (n := 5)).1 (Try.slices_Sorted_keys_38_39 g F.length (mapC F) tokC w h.map (by rw [mapC_size]; unfold maxLen; omega) (by rw [mapC_size]; omega))).mono ?_
  rintro e w' ⟨v, ss, rfl, hS, hrow, _, hb⟩
  rw [strKeys_mapC] at hS
  rw [sort_names h.rise hS, show ss.length = F.length by rw [hS.length_eq, List.length_map]] at hrow
  refine ⟨v, rfl, ?_, hb⟩
  have e : (F.map (·.name)).map encStr = nmsV F := by rw [List.map_map]; rfl
  rwa [e] at hrow
set_option maxHeartbeats 8000000 in
set_option maxRecDepth 100000 in
theorem all1_in (Z : World → Nat → Prop) (B n : Nat) (hn : 1 ≤ n) (l b p g o : Nat) (ss rb : Int) (F : List CE) (J Jx : List CE → World → Prop) (W : World) (hJ : AbidesFrom W.heap.size J) (hJx : AbidesFrom W.heap.size Jx)
    (hY : ∀ pre x W1, x ∈ F → J pre W1 → pre.length < F.length → YieldAt Fence.wide (n - 1) Try.prog l #[.string (nmA x), .pointer (some ⟨x.blk, 0, none⟩)] W1 fun e W' => (e = .returned (.bool true) ∧ J (pre ++ [x]) W' ∧ KpZ Z B W1 W') ∨ (e = .returned (.bool false) ∧ Jx (pre ++ [x]) W'))
    (hb : Box W b 23 #[.pointer (some ⟨p, 0, none⟩)]) (hC : CoIs W p g o ss rb F) (hnm : ∀ e ∈ F, e.name.length ≤ 100) (hF : F.length ≤ 1000)
    (hZ : ∀ W', Below W.heap.size W W' → ∀ k, Z W' k → Z W k ∧ k < W.heap.size) (hZb : ¬ Z W b) (hZp : ¬ Z W p) (hZg : ¬ Z W g) (hgB : g < B) (h0 : J [] W) :
    CallsIn Fence.wide n Try.prog 37 #[.func (.yield l) #[] #[], .pointer (some ⟨b, 0, none⟩)] W fun e W' => (∃ v, e = .returned v) ∧ ((∃ ys, ys = F ∧ J ys W') ∨ (∃ pre, pre <+: F ∧ Jx pre W')) := by
  refine callsIn_of_wp Try.func37 rfl trivial ?_ rfl
  simp only [Try.ntmps37, List.size_toArray, List.length_cons, List.length_nil, Nat.reduceAdd, Nat.reduceSub, Array.replicate_succ, Array.replicate_zero, List.push_toArray, List.append_toArray, List.nil_append, List.cons_append]
  have hbc := (hb.cell 0).trans (show _ = some (Value.pointer (some ⟨p, 0, none⟩)) from rfl)
  obtain ⟨c0, c1, c2, c3, cl⟩ := hC.cells
  have ck := fun w => (callsIn_wide (n := 5)).1 (Try.maps_Keys_39 (some g) w)
  have cs := csorted_c hC (by omega)
  gi_wp2_with fail
  refine ⟨trivial, (callsIn_wide.2 (ck _)).mono ?_⟩
  rintro e w2 ⟨rfl, rfl⟩
  gi_wp2_with fail
  refine ⟨trivial, (callsIn_wide.2 cs).mono ?_⟩
  rintro e w3 ⟨v, rfl, hrow, hb3⟩
  have hA2 : Below W.heap.size W (W.alloc (.cells #[.map (some g)] 51)) := (Below.refl _ _).alloc (Nat.le_refl _) _
  have hBW := hA2.trans (hb3.mono hA2.size)
  obtain ⟨A, c, rfl⟩ := own_slice hrow
  clear ck cs c0 c1 c2 c3 hbc hb3
  have HROW := Lib.hid hrow
  have HBW := Lib.hid hBW
  have HA2 := Lib.hid hA2
  have hks : ∀ k ∈ (b :: p :: g :: (Value.slice A F.length c).ownBlock.toList), ∃ o, w3.heap[k]? = some o ∧ (o.isCells = true ∨ k < B) := by
    intro k hk
    simp only [List.mem_cons, Option.mem_toList] at hk
    rcases hk with rfl | rfl | rfl | hk
    · exact ⟨_, (hb.later hBW : Box w3 _ _ _), .inl rfl⟩
    · exact ⟨_, (hC.later hBW).box, .inl rfl⟩
    · obtain ⟨es, clock, hm, _⟩ := (hC.later hBW).map
      exact ⟨_, hm, .inr hgB⟩
    · rcases hrow.2 with ⟨e, _⟩ | ⟨q, cap, cur, e, _, hq, _⟩
      · rw [e] at hk; cases hk
      · rw [e] at hk
        have : q = k := by simpa [Value.ownBlock] using hk
        subst this
        exact ⟨_, hq, .inl rfl⟩
  have h0i : ItZ Z w3 (b :: p :: g :: (Value.slice A F.length c).ownBlock.toList) F J 0 w3 := by
    refine ⟨Nat.zero_le _, ab_below hJ h0 hBW, fun k hk => ⟨rfl, fun hz => ?_⟩, Nat.le_refl _⟩
    obtain ⟨z1, z2⟩ := hZ w3 hBW k hz
    simp only [List.mem_cons, Option.mem_toList] at hk
    rcases hk with rfl | rfl | rfl | hk
    · exact hZb z1
    · exact hZp z1
    · exact hZg z1
    · have := (hrow.lt k hk).1
      simp at this
      omega
  have HI0 := Lib.hid h0i
  have HKS := Lib.hid hks
  have HBX := Lib.hid (show Box w3 b _ _ from hb.later hBW)
  have HCC := Lib.hid (hC.later hBW)
  clear hrow hBW hA2 hks h0i hb hC h0 cl hZ hZb hZp hZg
  gi_wp2_with fail
  gi_loopw [14] (fun j wr => ∃ i : Nat, j = .int .i64 i ∧ ItZ Z w3 (b :: p :: g :: (Value.slice A F.length c).ownBlock.toList) F J i wr) (fun j _ => F.length - (intOf j).toNat)
  case atStart => exact ⟨0, rfl, HI0.out⟩
  case round =>
    obtain ⟨i, rfl, hI⟩ := hrel
    clear HI0
    by_cases hi : i < F.length
    · obtain ⟨x, hx⟩ : ∃ x, F[i]? = some x := ⟨_, List.getElem?_eq_getElem hi⟩
      have hs := fun k hk => (hI.same k hk).1
      have hrow' := own_same HROW.out (fun k hk => hs k (by simp [hk]))
      have hbx' : Box wr b 23 #[.pointer (some ⟨p, 0, none⟩)] := (hs b (by simp)).trans HBX.out
      have hcc' := HCC.out.same (hs p (by simp)) (hs g (by simp))
      obtain ⟨r, rfl, hrl, _, _, hrc⟩ := own_in hrow' (by omega)
      have e0 := hrc i (.string (nmA x)) (by unfold nmsV; rw [List.getElem?_map, hx]; rfl)
      have hbc := (hbx'.cell 0).trans (show _ = some (Value.pointer (some ⟨p, 0, none⟩)) from rfl)
      obtain ⟨c0, c1, c2, c3, cl⟩ := hcc'.cells
      have hnx := hnm x (List.mem_of_getElem? hx)
      have hlk := look_any hcc' (nmA x) (by rw [nmA_size]; unfold maxLen; omega) false
      rw [if_neg (by decide), nmA_list, ofN_some hcc'.rise (List.mem_of_getElem? hx)] at hlk
      simp only [lookV, ceV] at hlk
      obtain ⟨fn, tmps, assign, body, hy, hRn⟩ := hY (F.take i) x wr (List.mem_of_getElem? hx) hI.j (by rw [List.length_take]; omega)
      have HR := Lib.hid hRn
      have HI := Lib.hid hI
      have HX := Lib.hid hx
      have hii : (i : Int) < (F.length : Int) := by omega
      have hi0 : (0 : Int) ≤ (i : Int) := by omega
      clear hRn hI hs hrow' hbx' hcc' hrc hnx
      gi_wp2_with fail
      refine HR.out.mono ?_
      rintro e W3 (⟨rfl, hJ3, hk3⟩ | ⟨rfl, hJx3⟩)
      · have HN := Lib.hid (HI.out.step HX.out hJ3 hk3 HKS.out)
        clear hJ3 hk3
        gi_wp2
        go_roundw
        case rel => exact ⟨i + 1, by go_num, HN.out⟩
        case measure => simp [intOf]; omega
      · gi_wp2
        refine bodyPost_ret (results_none rfl _ _ _) rfl ?_
        refine ⟨⟨_, rfl⟩, .inr ⟨_, ?_, hJx3⟩⟩
        exact ⟨F.drop (i + 1), by rw [show F.take i ++ [x] = F.take (i + 1) from (by rw [List.take_add_one, HX.out]; rfl), List.take_append_drop]⟩
    · have hii : i = F.length := by have := hI.le; omega
      subst hii
      have HJ := Lib.hid hI.j
      rw [List.take_length] at HJ
      have hin : ¬ (F.length : Int) < (F.length : Int) := by omega
      clear hI
      gi_wp2
      go_end0
      exact ⟨⟨_, rfl⟩, .inl HJ.out⟩
end Go.Proofs.Ytlokhhjhckiloaa
/- coord: Names: the names of all groups, in their order. No condition but that they are not too many. -/
namespace Go.Proofs.Ytlokhhjhckiloaa
open Go.RowKit Go.Maps Go.ChangeMaps Go.WideMaps Go.Sort Go.Shelf
set_option linter.unusedVariables false
attribute [local go_sem] Oper.semAt_some
set_option maxRecDepth 100000 in
theorem c_all (p : Nat) (W : World) : Calls Try.prog 20 #[.pointer (some ⟨p, 0, none⟩)] W (fun e w' => e = .returned (.func (Fn.func 37) #[] #[.pointer (some ⟨W.heap.size, 0, none⟩)]) ∧ w' = W.alloc (.cells #[.pointer (some ⟨p, 0, none⟩)] 23)) := by
  go_enter Try.func20, Try.ntmps20
  go_wp2_with fail
  go_ret
  exact ⟨rfl, rfl⟩
theorem strInfo' : (Try.prog.info? 9).map (fun i => (i.zero, i.size, i.bytes)) = some (some (.string ⟨#[]⟩), 1, 16) := by kernel_rfl
/-- One of F. -/
abbrev Nx (F : List CE) : Type := { x : CE // x ∈ F }
def vls {F : List CE} (l : List (Nx F)) : List CE := l.map (·.1)
theorem vls_snoc {F : List CE} (l : List (Nx F)) (x : Nx F) : vls (l ++ [x]) = vls l ++ [x.1] := by simp [vls]
theorem vls_len {F : List CE} (l : List (Nx F)) : (vls l).length = l.length := by simp [vls]
/-- What Names writes: its box and the row that the box names. -/
def ZN (nb : Nat) (W : World) (k : Nat) : Prop := k = nb ∨ ∃ n c, W.cell? ⟨nb, 0, none⟩ = some (.slice (some ⟨k, 0, none⟩) n c)
theorem kpZ_below {W w : World} {B nb : Nat} (h : Below W.heap.size W w) (hn : nb < W.heap.size) : KpZ (ZN nb) B W w := by
  refine ⟨h.size, fun k o hk _ _ => ?_, fun k hz => .inl ?_⟩
  · exact (h.block k (Array.getElem?_eq_some_iff.1 hk).1).trans hk
  · rcases hz with e | ⟨n, c, e⟩
    · exact .inl e
    · exact .inr ⟨n, c, (World.cell?_of_block (a := ⟨nb, 0, none⟩) (h.block nb hn)).symm.trans e⟩
theorem kpZ_put {B nb S : Nat} (hn : nb < S) (hB : B ≤ S) (W : World) (l : Nat) (o o' : Obj) (hl : S ≤ l) (ho : W.heap[l]? = some o) (hc : o.isCells = false) : KpZ (ZN nb) B W (W.putObj l o') := by
  refine ⟨by simp [World.putObj], fun k u hk hu _ => ?_, fun k hz => .inl ?_⟩
  · refine (World.putObj_heap_other fun e => ?_).trans hk
    subst e
    rw [ho] at hk; cases hk
    rcases hu with h | h
    · rw [h] at hc; cases hc
    · omega
  · rcases hz with e | ⟨n, c, e⟩
    · exact .inl e
    · exact .inr ⟨n, c, (World.cell?_of_block (a := ⟨nb, 0, none⟩) (World.putObj_heap_other (show nb ≠ l from by omega))).symm.trans e⟩
theorem appendedZ {w2 w3 : World} {n₁ B nb : Nat} {t e : TypeId} {size : Nat} {v : Value} {k g' m cap : Nat} {xs : List Value} {tmp : Obj}
    (hv : Boxed w2 nb t v) (hrow : w2.ownsRow n₁ e size v k xs) (hgrow : (w2.alloc tmp).grownBy w3 v.ownBlock) (hg : v.ownBlock = some g' ∨ g' = (w2.alloc tmp).heap.size) (hx1 : Boxed w3 nb t v) :
    KpZ (ZN nb) B w2 (w3.setCell ⟨nb, 0, none⟩ (.slice (some ⟨g', 0, none⟩) m cap)) := by
  have hsz : w2.heap.size ≤ w3.heap.size := by have := hgrow.size; rw [World.size_alloc] at this; omega
  have hown : ∀ q, v.ownBlock = some q → ZN nb w2 q := by
    intro q hq
    rcases hrow.2 with ⟨rfl, _⟩ | ⟨g, c, cur, rfl, _, _, _⟩
    · simp [Value.ownBlock] at hq
    · obtain rfl : g = q := by simpa [Value.ownBlock] using hq
      exact .inr ⟨_, _, hv.cell⟩
  refine ⟨by rw [World.size_setCell]; exact hsz, fun q o hq _ hz => ?_, fun q hz => ?_⟩
  · have hlt := (Array.getElem?_eq_some_iff.1 hq).1
    have h1 : (w3.setCell ⟨nb, 0, none⟩ (.slice (some ⟨g', 0, none⟩) m cap)).heap[q]? = w3.heap[q]? := Below.heap_setCell w3 ⟨nb, 0, none⟩ _ q (fun e => hz (.inl e))
    have h2 : w3.heap[q]? = (w2.alloc tmp).heap[q]? := hgrow.block q (by simp; omega) (fun e => hz (hown q e.symm))
    exact h1.trans (h2.trans ((Below.heap_alloc w2 tmp q (by omega)).trans hq))
  · rcases hz with e | ⟨n, c, e⟩
    · exact .inl (.inl e)
    · rw [(hx1.set _).cell] at e
      injection e with e; injection e with e1 e2 e3
      injection e1 with e1; injection e1 with e1
      subst e1
      rcases hg with h | h
      · exact .inl (hown _ h)
      · right; rw [h, World.size_alloc]; omega
theorem oper_append_l {F : Fence} {n : Nat} {P : Program} (w : World) {o : Oper} {a : Act} {Q : Exit → Act → World → Prop} {K : Act → World → Prop}
    (s x : Operand) (t : TypeId) (hop : o.op = Op.call { callee := Callee.builtin Builtin.append, args := #[s, x], argTypes := #[t, t] })
    (base : Nat) (e : TypeId) (i : TypeInfo) (z : Value) (size bytes : Nat) (h1 : P.underlying t = some (.slice e)) (h2 : P.info? e = some i) (h3 : i.zero = some z) (h4 : i.size = size) (h5 : i.bytes = bytes) (h6 : z.cells.size = size) (h7 : 0 < size)
    (v : Value) (k : Nat) (xs : List Value) (hs : a.eval s = v) (hown : w.ownsRow base e size v k xs) (ad : Addr) (m c : Nat) (news : List Value) (hx : a.eval x = .slice (some ad) m c) (hn : news.length = m * size)
    (hc : ∀ j u, news[j]? = some u → w.cell? (ad.add j) = some u) (h1c : ∀ u ∈ news, u.oneCell' = true) (hm : 0 < m) (b1 : k + m ≤ maxLen) (b2 : (k + m) * bytes ≤ 140737488355328) (b3 : base ≤ w.heap.size)
    (hK : ∀ g cap w', w'.ownsRow base e size (.slice (some ⟨g, 0, none⟩) (k + m) cap) (k + m) (xs ++ news) → w.grownBy w' v.ownBlock → (v.ownBlock = some g ∨ g = w.heap.size) → K (a.put o.dst (.slice (some ⟨g, 0, none⟩) (k + m) cap)) w') : o.wpIn F n P a w K Q := by
  obtain ⟨g, cap, w', hrun, r1, r2, r3, _⟩ := run_append_lies (P := P) w t o.type base e i z size bytes h1 h2 h3 h4 h5 h6 h7 v k xs hown ad m c news hn hc h1c hm b1 b2 b3 w.heap.size rfl
  unfold Oper.wpIn
  refine ⟨?_, ?_⟩
  · simp [Oper.about, hop, resolve, Target.leads, Sem.run_pure]
  · rw [Oper.semAt_plain F _ _ (by rw [hop]; intro c hc'; cases hc')]
    simp [execOp, hop, resolve, invoke, builtin, hs, hx, hrun, Result.andThen]
    exact hK g cap w' r1 r2 r3
theorem keeps_below {W w : World} (h : Below W.heap.size W w) : KeepsOthers W w := KeepsOthers.of_grownBy (row := none) ⟨h.os, h.tape, h.output, h.size, fun k hk _ => h.block k hk⟩ (fun j o ej => by cases ej)
theorem all_stops {F : List CE} {p g o b nb B : Nat} {ss rb : Int} (n : Nat) (hn : 1 ≤ n) (w : World) (hb : Box w b 23 #[.pointer (some ⟨p, 0, none⟩)]) (hC : CoIs w p g o ss rb F) (hnm : ∀ e ∈ F, e.name.length ≤ 100) (hF : F.length ≤ 1000)
    (hz : w.cell? ⟨nb, 0, none⟩ = some (.slice none 0 0)) (hnb : nb < w.heap.size) (h1 : nb ≠ b) (h2 : nb ≠ p) (h3 : nb ≠ g) (hgB : g < B) :
    SeqStopsK Fence.wide n Try.prog 37 #[.pointer (some ⟨b, 0, none⟩)] (fun x : Nx F => #[.string (nmA x.1), .pointer (some ⟨x.1.blk, 0, none⟩)]) (KpZ (ZN nb) B) (fun ys => vls ys = F) (fun pre => vls pre <+: F) F.length w :=
  fun l J Jx W hW hJ hJx hY h0 => by
    have hz' : W.cell? ⟨nb, 0, none⟩ = some (.slice none 0 0) := (World.cell?_of_block (a := ⟨nb, 0, none⟩) (hW.block nb hnb)).trans hz
    have hno : ∀ k, ZN nb W k → k = nb := by
      rintro k (e | ⟨n, c, e⟩)
      · exact e
      · rw [hz'] at e; cases e
    refine (all1_in (ZN nb) B n hn l b p g o ss rb F (fun ys W => ∃ zs : List (Nx F), vls zs = ys ∧ J zs W) (fun ys W => ∃ zs : List (Nx F), vls zs = ys ∧ Jx zs W) W ?_ ?_ ?_ (hb.later hW) (hC.later hW) hnm hF ?_
      (fun h => h1 (hno _ h).symm) (fun h => h2 (hno _ h).symm) (fun h => h3 (hno _ h).symm) hgB ⟨[], rfl, h0⟩).mono ?_
    · rintro s A B row ⟨zs, hz, hj⟩ hg hr
      exact ⟨zs, hz, hJ zs A B row hj hg hr⟩
    · rintro s A B row ⟨zs, hz, hj⟩ hg hr
      exact ⟨zs, hz, hJx zs A B row hj hg hr⟩
    · rintro pre x W1 hx ⟨zs, rfl, hj⟩ hlen
      rw [vls_len] at hlen
      refine (hY zs ⟨x, hx⟩ W1 hj hlen).mono ?_
      rintro e W' (⟨he, h1, h2⟩ | ⟨he, h1⟩)
      · exact .inl ⟨he, ⟨_, vls_snoc _ _, h1⟩, h2⟩
      · exact .inr ⟨he, ⟨_, vls_snoc _ _, h1⟩⟩
    · intro W' hW' k hk
      have e : W'.cell? ⟨nb, 0, none⟩ = W.cell? ⟨nb, 0, none⟩ := World.cell?_of_block (a := ⟨nb, 0, none⟩) (hW'.block nb (by have := hW.size; omega))
      have hk' : ZN nb W k := by
        rcases hk with h | ⟨n, c, h⟩
        · exact .inl h
        · exact .inr ⟨n, c, e.symm.trans h⟩
      exact ⟨hk', by rw [hno k hk']; have := hW.size; omega⟩
    · rintro e W' ⟨he, ⟨ys, rfl, zs, hz, hj⟩ | ⟨pre, hp, zs, hz, hj⟩⟩
      · exact ⟨he, .inl ⟨zs, hz, hj⟩⟩
      · exact ⟨he, .inr ⟨zs, by show vls zs <+: _; rw [hz]; exact hp, hj⟩⟩
/-- What stands in the box of Names' result behind some of them. -/
def NAt (F : List CE) (w : World) (pre : List (Nx F)) (W : World) : Prop :=
  (∃ v, Boxed W w.heap.size 32 v ∧ W.ownsRow w.heap.size 9 1 v pre.length (nmsV (vls pre)) ∧ True) ∧ Below w.heap.size w W ∧ w.heap.size + 2 ≤ W.heap.size
theorem nAt_own (F : List CE) (w : World) (B : Nat) (hB : w.heap.size ≤ B) : OwnFrom B (NAt F w) :=
  OwnFrom.and (Own.from (holdsRow_own w.heap.size w.heap.size 32 9 1 (fun pre : List (Nx F) => pre.length) (fun pre => nmsV (vls pre)) (fun _ _ => True)) _) (OwnFrom.and (ownFrom_below (Nat.le_refl _) hB) (fun s A B row hs hg hr => Nat.le_trans hs hg.size))
set_option maxHeartbeats 4000000 in
set_option maxRecDepth 100000 in
theorem names_in {p g o : Nat} {ss rb : Int} {F : List CE} (w : World) (hC : CoIs w p g o ss rb F) (hnm : ∀ e ∈ F, e.name.length ≤ 100) (hF : F.length ≤ 1000) :
    CallsIn Fence.wide 9 Try.prog 8 #[.pointer (some ⟨p, 0, none⟩)] w fun e W' => ∃ v, e = .returned v ∧ W'.ownsRow w.heap.size 9 1 v F.length (nmsV F) ∧ Below w.heap.size w W' := by
  have hpl : p < w.heap.size := (Array.getElem?_eq_some_iff.1 hC.box).1
  have hgl : g < w.heap.size := by obtain ⟨es, clock, hm, _⟩ := hC.map; exact (Array.getElem?_eq_some_iff.1 hm).1
  refine callsIn_of_wp_marks Try.func8 rfl trivial ?_ rfl
  simp only [Try.ntmps8, List.size_toArray, List.length_cons, List.length_nil, Nat.reduceAdd, Nat.reduceSub, Array.replicate_succ, Array.replicate_zero, List.push_toArray, List.append_toArray, List.nil_append, List.cons_append]
  gi_wp2_with fail
  refine ⟨trivial, (callsIn_wide.2 (c_all p _)).mono ?_⟩
  rintro e w' ⟨rfl, rfl⟩
  gi_wp2_with fail
  obtain ⟨W0, hW0⟩ : ∃ W0, (w.alloc (.cells #[.slice none 0 0] 32)).alloc (.cells #[.pointer (some ⟨p, 0, none⟩)] 23) = W0 := ⟨_, rfl⟩
  have hs0 : W0.heap.size = w.heap.size + 2 := by rw [← hW0]; simp
  have hB0 : Boxed W0 w.heap.size 32 (.slice none 0 0) := by rw [← hW0]; exact (Boxed.new w _ _).alloc _
  have hB1 : Box W0 (w.heap.size + 1) 23 #[.pointer (some ⟨p, 0, none⟩)] := by
    rw [← hW0]
    have := Box.new (w.alloc (.cells #[.slice none 0 0] 32)) 23 #[.pointer (some ⟨p, 0, none⟩)]
    rwa [World.size_alloc] at this
  have hBW : Below w.heap.size w W0 := by rw [← hW0]; exact ((Below.refl _ w).alloc (Nat.le_refl _) _).alloc (by simp) _
  try rw [hW0]
  clear hW0
  refine wpIn_rangeFunc_ownF rfl (by omega) (gf := 37) (lb := #[.pointer (some ⟨w.heap.size + 1, 0, none⟩)]) rfl trivial (enters_of Try.func37 (by kernel_rfl) rfl)
    (all_stops (nb := w.heap.size) (B := w.heap.size) 8 (by omega) W0 hB1 (hC.later hBW) hnm hF hB0.cell (by omega) (by omega) (by omega) (by omega) hgl) KpZ.trans (fun W l o o' h1 h2 h3 h4 => kpZ_put (S := W0.heap.size) (by omega) (by omega) W l o o' h1 h2 h3) (Below.refl _ _) (fun _ => rfl)
    (NAt F w) (fun _ _ _ => False) (nAt_own F w _ (by omega)) (fun _ _ _ _ _ hs _ _ => hs) ⟨⟨_, hB0, World.ownsRow_nil _ _ _ _, trivial⟩, hBW, by omega⟩
    (fun x : Nx F => { tmps := #[.pointer (some ⟨p, 0, none⟩), undef, .slice none 0 0, .pointer (some ⟨w.heap.size, 0, none⟩), .string (nmA x.1), .pointer (some ⟨p, 0, none⟩), .func (.func 37) #[] #[.pointer (some ⟨w.heap.size + 1, 0, none⟩)], .string (nmA x.1), .pointer (some ⟨x.1.blk, 0, none⟩), undef, undef, undef, undef, undef, undef], defers := [] }) ?assign ?body ?done ?stop
  case assign =>
    intro l x W K hK
    gi_wp2
    exact hK
  case body =>
    rintro l pre ⟨x, hx⟩ W ⟨⟨v, hv, hr, _⟩, hB, hsz⟩ hlen
    obtain ⟨i0, hi, hz0, hz1, hz2⟩ := info_parts strInfo'
    have hvl := hv.lt
    have hvc := hv.cell
    have hfol : Try.prog.follows .mixedOrders = true := by kernel_rfl
    gi_wp2_with fail
    refine wpIn_region_any hfol ?_
    have hxl : (nmA x).size ≤ 281474976710656 := by rw [nmA_size]; have := hnm x hx; omega
    have hbd0 : pre.length < 1000 := by omega
    have hbd1 : pre.length + 1 ≤ maxLen := by unfold maxLen; omega
    have hbd2 : (pre.length + 1) * 16 ≤ 140737488355328 := by omega
    have hdr : Below W.heap.size W { W with drawn := W.drawn + 1 } := (Below.refl W.heap.size W).drew
    refine wpAnyIn_ready (rs := [0, 1]) (by kernel_rfl) (by simp) ?_
    refine AllReadyIn.cons rfl (fun K hK => ?_) (AllReadyIn.cons rfl (fun K hK => ?_) AllReadyIn.nil)
    · go_simp
      refine hK _ _ ?_
      clear hK K
      refine wpAnyIn_ready (rs := [1]) (by kernel_rfl) (by simp) ?_
      refine AllReadyIn.cons rfl (fun K hK => ?_) AllReadyIn.nil
      · go_simp
        refine hK _ _ ?_
        clear hK K
        refine wpAnyIn_ready (rs := [2]) (by kernel_rfl) (by simp) ?_
        refine AllReadyIn.cons rfl (fun K hK => ?_) AllReadyIn.nil
        · go_simp
          refine ⟨trivial, ?_⟩
          (gi_at_call 18; refine (CallsIn.inRound l (callsIn_wide.2 (clone_c (nmA x) _ hxl))).mono ?_; rintro e w2 ⟨rfl, hb2⟩)
          have hb2' : Below W.heap.size W w2 := hdr.trans hb2
          have hv2 : Boxed w2 w.heap.size 32 v := (hb2'.block _ hvl).trans hv
          have hvc2 := hv2.cell
          have hvc3 := (hv2.alloc (.cells #[.string (nmA x)] 9)).cell
          have hr2 : w2.ownsRow w.heap.size 9 1 v pre.length (nmsV (vls pre)) := own_below hr hb2'
          refine hK _ _ ?_
          clear hK K
          refine wpAnyIn_ready (rs := [3]) (by kernel_rfl) (by simp) ?_
          refine AllReadyIn.cons rfl (fun K hK => ?_) AllReadyIn.nil
          · go_simp
            refine hK _ _ ?_
            clear hK K
            refine wpAnyIn_ready (rs := [4]) (by kernel_rfl) (by simp) ?_
            refine AllReadyIn.cons rfl (fun K hK => ?_) AllReadyIn.nil
            rw [if_pos (show Region.wanted _ _ = true from rfl)]
            refine oper_append_l _ (.tmp 9) (.tmp 12) 32 rfl w.heap.size 9 i0 (.string ⟨#[]⟩) 1 16 Try.underlying32 hi hz0 hz1 hz2 rfl (by decide) v pre.length (nmsV (vls pre)) rfl (hr2.alloc _) ⟨w2.heap.size, 0, none⟩ 1 1 [.string (nmA x)] rfl rfl (cell_one_new _ _ _) (by simp [Value.oneCell']) (by decide) hbd1 hbd2 (by have := hb2'.size; rw [World.size_alloc]; omega) ?_
            intro g' cap' w3 hown' hgrow hg5
            have hsz2 := hb2'.size
            obtain ⟨hx1, hx2, hx3, hx4, hx6⟩ := Boxed.appended (n₀ := w.heap.size) hv2 (by decide) hr2 (by omega) (by omega) hown' hgrow
            have hx5 := appendedZ (B := w.heap.size) hv2 hr2 hgrow hg5 hx1 (m := pre.length + 1) (cap := cap')
            have hc1 := hx1.cell
            have hf1 := hx1.frozen
            refine hK _ _ ?_
            clear hK K
            refine wpAnyIn_ready (rs := [5]) (by kernel_rfl) (by simp) ?_
            refine AllReadyIn.cons rfl (fun K hK => ?_) AllReadyIn.nil
            go_simp
            refine hK _ _ ?_
            clear hK K
            refine wpAnyIn_done (by kernel_rfl) ?_ _
            gi_wp2
            have e9 : nmsV (vls (pre ++ [(⟨x, hx⟩ : Nx F)])) = nmsV (vls pre) ++ [.string (nmA x)] := by simp [vls, nmsV]
            have hkp := KpZ.trans (kpZ_below (B := w.heap.size) (nb := w.heap.size) hb2' (by omega)) hx5
            exact ⟨(keeps_below hb2').trans hx4, hkp, ⟨_, hx2, by rw [e9, List.length_append]; exact hx3, trivial⟩, hB.trans ((hb2'.mono (by omega)).trans hx6), by have := hkp.size; omega⟩
    · go_simp
      refine hK _ _ ?_
      clear hK K
      refine wpAnyIn_ready (rs := [0, 2]) (by kernel_rfl) (by simp) ?_
      refine AllReadyIn.cons rfl (fun K hK => ?_) (AllReadyIn.cons rfl (fun K hK => ?_) AllReadyIn.nil)
      · go_simp
        refine hK _ _ ?_
        clear hK K
        refine wpAnyIn_ready (rs := [2]) (by kernel_rfl) (by simp) ?_
        refine AllReadyIn.cons rfl (fun K hK => ?_) AllReadyIn.nil
        · go_simp
          refine ⟨trivial, ?_⟩
          (gi_at_call 18; refine (CallsIn.inRound l (callsIn_wide.2 (clone_c (nmA x) _ hxl))).mono ?_; rintro e w2 ⟨rfl, hb2⟩)
          have hb2' : Below W.heap.size W w2 := hdr.trans hb2
          have hv2 : Boxed w2 w.heap.size 32 v := (hb2'.block _ hvl).trans hv
          have hvc2 := hv2.cell
          have hvc3 := (hv2.alloc (.cells #[.string (nmA x)] 9)).cell
          have hr2 : w2.ownsRow w.heap.size 9 1 v pre.length (nmsV (vls pre)) := own_below hr hb2'
          refine hK _ _ ?_
          clear hK K
          refine wpAnyIn_ready (rs := [3]) (by kernel_rfl) (by simp) ?_
          refine AllReadyIn.cons rfl (fun K hK => ?_) AllReadyIn.nil
          · go_simp
            refine hK _ _ ?_
            clear hK K
            refine wpAnyIn_ready (rs := [4]) (by kernel_rfl) (by simp) ?_
            refine AllReadyIn.cons rfl (fun K hK => ?_) AllReadyIn.nil
            rw [if_pos (show Region.wanted _ _ = true from rfl)]
            refine oper_append_l _ (.tmp 9) (.tmp 12) 32 rfl w.heap.size 9 i0 (.string ⟨#[]⟩) 1 16 Try.underlying32 hi hz0 hz1 hz2 rfl (by decide) v pre.length (nmsV (vls pre)) rfl (hr2.alloc _) ⟨w2.heap.size, 0, none⟩ 1 1 [.string (nmA x)] rfl rfl (cell_one_new _ _ _) (by simp [Value.oneCell']) (by decide) hbd1 hbd2 (by have := hb2'.size; rw [World.size_alloc]; omega) ?_
            intro g' cap' w3 hown' hgrow hg5
            have hsz2 := hb2'.size
            obtain ⟨hx1, hx2, hx3, hx4, hx6⟩ := Boxed.appended (n₀ := w.heap.size) hv2 (by decide) hr2 (by omega) (by omega) hown' hgrow
            have hx5 := appendedZ (B := w.heap.size) hv2 hr2 hgrow hg5 hx1 (m := pre.length + 1) (cap := cap')
            have hc1 := hx1.cell
            have hf1 := hx1.frozen
            refine hK _ _ ?_
            clear hK K
            refine wpAnyIn_ready (rs := [5]) (by kernel_rfl) (by simp) ?_
            refine AllReadyIn.cons rfl (fun K hK => ?_) AllReadyIn.nil
            go_simp
            refine hK _ _ ?_
            clear hK K
            refine wpAnyIn_done (by kernel_rfl) ?_ _
            gi_wp2
            have e9 : nmsV (vls (pre ++ [(⟨x, hx⟩ : Nx F)])) = nmsV (vls pre) ++ [.string (nmA x)] := by simp [vls, nmsV]
            have hkp := KpZ.trans (kpZ_below (B := w.heap.size) (nb := w.heap.size) hb2' (by omega)) hx5
            exact ⟨(keeps_below hb2').trans hx4, hkp, ⟨_, hx2, by rw [e9, List.length_append]; exact hx3, trivial⟩, hB.trans ((hb2'.mono (by omega)).trans hx6), by have := hkp.size; omega⟩
      · go_simp
        refine ⟨trivial, ?_⟩
        (gi_at_call 18; refine (CallsIn.inRound l (callsIn_wide.2 (clone_c (nmA x) _ hxl))).mono ?_; rintro e w2 ⟨rfl, hb2⟩)
        have hb2' : Below W.heap.size W w2 := hdr.trans hb2
        have hv2 : Boxed w2 w.heap.size 32 v := (hb2'.block _ hvl).trans hv
        have hvc2 := hv2.cell
        have hvc3 := (hv2.alloc (.cells #[.string (nmA x)] 9)).cell
        have hr2 : w2.ownsRow w.heap.size 9 1 v pre.length (nmsV (vls pre)) := own_below hr hb2'
        refine hK _ _ ?_
        clear hK K
        refine wpAnyIn_ready (rs := [0, 3]) (by kernel_rfl) (by simp) ?_
        refine AllReadyIn.cons rfl (fun K hK => ?_) (AllReadyIn.cons rfl (fun K hK => ?_) AllReadyIn.nil)
        · go_simp
          refine hK _ _ ?_
          clear hK K
          refine wpAnyIn_ready (rs := [3]) (by kernel_rfl) (by simp) ?_
          refine AllReadyIn.cons rfl (fun K hK => ?_) AllReadyIn.nil
          · go_simp
            refine hK _ _ ?_
            clear hK K
            refine wpAnyIn_ready (rs := [4]) (by kernel_rfl) (by simp) ?_
            refine AllReadyIn.cons rfl (fun K hK => ?_) AllReadyIn.nil
            rw [if_pos (show Region.wanted _ _ = true from rfl)]
            refine oper_append_l _ (.tmp 9) (.tmp 12) 32 rfl w.heap.size 9 i0 (.string ⟨#[]⟩) 1 16 Try.underlying32 hi hz0 hz1 hz2 rfl (by decide) v pre.length (nmsV (vls pre)) rfl (hr2.alloc _) ⟨w2.heap.size, 0, none⟩ 1 1 [.string (nmA x)] rfl rfl (cell_one_new _ _ _) (by simp [Value.oneCell']) (by decide) hbd1 hbd2 (by have := hb2'.size; rw [World.size_alloc]; omega) ?_
            intro g' cap' w3 hown' hgrow hg5
            have hsz2 := hb2'.size
            obtain ⟨hx1, hx2, hx3, hx4, hx6⟩ := Boxed.appended (n₀ := w.heap.size) hv2 (by decide) hr2 (by omega) (by omega) hown' hgrow
            have hx5 := appendedZ (B := w.heap.size) hv2 hr2 hgrow hg5 hx1 (m := pre.length + 1) (cap := cap')
            have hc1 := hx1.cell
            have hf1 := hx1.frozen
            refine hK _ _ ?_
            clear hK K
            refine wpAnyIn_ready (rs := [5]) (by kernel_rfl) (by simp) ?_
            refine AllReadyIn.cons rfl (fun K hK => ?_) AllReadyIn.nil
            go_simp
            refine hK _ _ ?_
            clear hK K
            refine wpAnyIn_done (by kernel_rfl) ?_ _
            gi_wp2
            have e9 : nmsV (vls (pre ++ [(⟨x, hx⟩ : Nx F)])) = nmsV (vls pre) ++ [.string (nmA x)] := by simp [vls, nmsV]
            have hkp := KpZ.trans (kpZ_below (B := w.heap.size) (nb := w.heap.size) hb2' (by omega)) hx5
            exact ⟨(keeps_below hb2').trans hx4, hkp, ⟨_, hx2, by rw [e9, List.length_append]; exact hx3, trivial⟩, hB.trans ((hb2'.mono (by omega)).trans hx6), by have := hkp.size; omega⟩
        · go_simp
          refine hK _ _ ?_
          clear hK K
          refine wpAnyIn_ready (rs := [0]) (by kernel_rfl) (by simp) ?_
          refine AllReadyIn.cons rfl (fun K hK => ?_) AllReadyIn.nil
          · go_simp
            refine hK _ _ ?_
            clear hK K
            refine wpAnyIn_ready (rs := [4]) (by kernel_rfl) (by simp) ?_
            refine AllReadyIn.cons rfl (fun K hK => ?_) AllReadyIn.nil
            rw [if_pos (show Region.wanted _ _ = true from rfl)]
            refine oper_append_l _ (.tmp 9) (.tmp 12) 32 rfl w.heap.size 9 i0 (.string ⟨#[]⟩) 1 16 Try.underlying32 hi hz0 hz1 hz2 rfl (by decide) v pre.length (nmsV (vls pre)) rfl (hr2.alloc _) ⟨w2.heap.size, 0, none⟩ 1 1 [.string (nmA x)] rfl rfl (cell_one_new _ _ _) (by simp [Value.oneCell']) (by decide) hbd1 hbd2 (by have := hb2'.size; rw [World.size_alloc]; omega) ?_
            intro g' cap' w3 hown' hgrow hg5
            have hsz2 := hb2'.size
            obtain ⟨hx1, hx2, hx3, hx4, hx6⟩ := Boxed.appended (n₀ := w.heap.size) hv2 (by decide) hr2 (by omega) (by omega) hown' hgrow
            have hx5 := appendedZ (B := w.heap.size) hv2 hr2 hgrow hg5 hx1 (m := pre.length + 1) (cap := cap')
            have hc1 := hx1.cell
            have hf1 := hx1.frozen
            refine hK _ _ ?_
            clear hK K
            refine wpAnyIn_ready (rs := [5]) (by kernel_rfl) (by simp) ?_
            refine AllReadyIn.cons rfl (fun K hK => ?_) AllReadyIn.nil
            go_simp
            refine hK _ _ ?_
            clear hK K
            refine wpAnyIn_done (by kernel_rfl) ?_ _
            gi_wp2
            have e9 : nmsV (vls (pre ++ [(⟨x, hx⟩ : Nx F)])) = nmsV (vls pre) ++ [.string (nmA x)] := by simp [vls, nmsV]
            have hkp := KpZ.trans (kpZ_below (B := w.heap.size) (nb := w.heap.size) hb2' (by omega)) hx5
            exact ⟨(keeps_below hb2').trans hx4, hkp, ⟨_, hx2, by rw [e9, List.length_append]; exact hx3, trivial⟩, hB.trans ((hb2'.mono (by omega)).trans hx6), by have := hkp.size; omega⟩
  case done =>
    rintro D ys W hD hS ⟨⟨v, hv, hr, _⟩, hB, hsz⟩ hK
    have hvc := hv.cell
    gi_wp2
    refine ⟨by simp, .inl ⟨_, _, rfl, run_takeDeferred hK, ?_⟩⟩
    have hl2 : ys.length = F.length := by rw [← vls_len ys, show vls ys = F from hS]
    rw [hl2, show vls ys = F from hS] at hr
    refine ⟨_, results_tmp rfl _ _ _, _, rfl, ?_, ?_⟩
    · exact ownsRow_putObj hr _ hK rfl
    · exact hB.trans (belowK_b (w := w) (Nat.le_refl _) W D _ _ (by omega) hK rfl rfl)
  case stop =>
    rintro D c pre W _ _ h _
    exact h.elim
theorem cnames_c {p g o : Nat} {ss rb : Int} {F : List CE} (w : World) (hC : CoIs w p g o ss rb F) (hnm : ∀ e ∈ F, e.name.length ≤ 100) (hF : F.length ≤ 1000) :
    Calls Try.prog 8 #[.pointer (some ⟨p, 0, none⟩)] w fun e W' => ∃ v, e = .returned v ∧ W'.ownsRow w.heap.size 9 1 v F.length (nmsV F) ∧ Below w.heap.size w W' := callsIn_wide.1 (names_in w hC hnm hF)
end Go.Proofs.Ytlokhhjhckiloaa
