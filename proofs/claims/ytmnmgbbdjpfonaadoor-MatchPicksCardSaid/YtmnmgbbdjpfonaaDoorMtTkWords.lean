/- token.Words by one contract. Condition: the text's length. -/
import Derived.Test.YtmnmgbbdjpfonaaDoorMtTkIter
import Derived.Test.YtmnmgbbdjpfonaaDoorMtTkFold
import Derived.Maps.AppendAt
namespace Go.Proofs.YtmnmgbbdjpfonaaDoor
open Go.RowKit Go.Shelf Go.Lib
set_option linter.unusedVariables false
attribute [local go_sem] Oper.semAt_some
theorem pieces_c (s : ByteArray) (w : World) : Calls Tryd.prog 45 #[.string s] w fun e w' => e = .returned (.func (.func 52) #[] #[.pointer (some ⟨w.heap.size, 0, none⟩)]) ∧ w' = w.alloc (.cells #[.string s] 9) := by
  go_enter Tryd.func45, Tryd.ntmps45
  go_wp2
  go_ret
  exact ⟨rfl, rfl⟩
/-- A text no longer than L. -/
abbrev Px (L : List UInt8) : Type := { x : List UInt8 // x.length ≤ L.length }
def vals {L : List UInt8} (l : List (Px L)) : List (List UInt8) := l.map (·.1)
theorem vals_snoc {L : List UInt8} (l : List (Px L)) (x : Px L) : vals (l ++ [x]) = vals l ++ [x.1] := by simp [vals]
theorem vals_len {L : List UInt8} (l : List (Px L)) : (vals l).length = l.length := by simp [vals]
theorem pieces_stops (L : List UInt8) (hl : L.length ≤ 140737488351232) (n : Nat) (hn : 1 ≤ n) (Bs n₀ : Nat) (w : World) (hBs : w.cell? ⟨Bs, 0, none⟩ = some (.string (bs L))) (hT : Tabs w) (hn0 : 2 ≤ n₀) :
    SeqStopsK Fence.wide n Tryd.prog 52 #[.pointer (some ⟨Bs, 0, none⟩)] (fun x : Px L => #[Value.string (bs x.1)]) (KpT n₀ Bs) (fun ys => vals ys = TK.rawp L) (fun pre => vals pre <+: TK.rawp L) (TK.rawp L).length w :=
  fun l J Jx W hW hJ hJx hY h0 => by
    refine (pieces1_in L hl n hn l Bs n₀ (fun ys W => ∃ zs : List (Px L), vals zs = ys ∧ J zs W) (fun ys W => ∃ zs : List (Px L), vals zs = ys ∧ Jx zs W) W ?_ ?_ ?_ ((hW.cell (p := ⟨Bs, 0, none⟩) (tab_lt hBs)).trans hBs) (hT.below hW) hn0
      (by have h1 := tab_lt (hT.2 0 (by omega)).1; have h2 := hW.size; simp only at h1; omega) ⟨[], rfl, h0⟩).mono ?_
    · rintro s A B row ⟨zs, hz, hj⟩ hg hr
      exact ⟨zs, hz, hJ zs A B row hj hg hr⟩
    · rintro s A B row ⟨zs, hz, hj⟩ hg hr
      exact ⟨zs, hz, hJx zs A B row hj hg hr⟩
    · rintro pre x W1 hx ⟨zs, rfl, hj⟩ hlen
      rw [vals_len] at hlen
      refine (hY zs ⟨x, hx⟩ W1 hj hlen).mono ?_
      rintro e W' (⟨he, h1, h2⟩ | ⟨he, h1⟩)
      · exact .inl ⟨he, ⟨_, vals_snoc _ _, h1⟩, h2⟩
      · exact .inr ⟨he, ⟨_, vals_snoc _ _, h1⟩⟩
    · rintro e W' ⟨he, ⟨ys, rfl, zs, hz, hj⟩ | ⟨pre, hp, zs, hz, hj⟩⟩
      · exact ⟨he, .inl ⟨zs, hz, hj⟩⟩
      · exact ⟨he, .inr ⟨zs, by show vals zs <+: _; rw [hz]; exact hp, hj⟩⟩
theorem strInfo : (Tryd.prog.info? 9).map (fun i => (i.zero, i.size, i.bytes)) = some (some (.string ⟨#[]⟩), 1, 16) := by kernel_rfl
def strC (l : List (List UInt8)) : List Value := l.map fun x => .string (bs x)
theorem oper_append {F : Fence} {n : Nat} {P : Program} (w : World) {o : Oper} {a : Act} {Q : Exit → Act → World → Prop} {K : Act → World → Prop}
    (s x : Operand) (t : TypeId) (hop : o.op = Op.call { callee := Callee.builtin Builtin.append, args := #[s, x], argTypes := #[t, t] })
    (base : Nat) (e : TypeId) (i : TypeInfo) (z : Value) (size bytes : Nat) (h1 : P.underlying t = some (.slice e)) (h2 : P.info? e = some i) (h3 : i.zero = some z) (h4 : i.size = size) (h5 : i.bytes = bytes) (h6 : z.cells.size = size) (h7 : 0 < size)
    (v : Value) (k : Nat) (xs : List Value) (hs : a.eval s = v) (hown : w.ownsRow base e size v k xs) (ad : Addr) (m c : Nat) (news : List Value) (hx : a.eval x = .slice (some ad) m c) (hn : news.length = m * size)
    (hc : ∀ j u, news[j]? = some u → w.cell? (ad.add j) = some u) (h1c : ∀ u ∈ news, u.oneCell' = true) (b1 : k + m ≤ maxLen) (b2 : (k + m) * bytes ≤ 140737488355328) (b3 : base ≤ w.heap.size)
    (hK : ∀ v' w', w'.ownsRow base e size v' (k + m) (xs ++ news) → w.grownBy w' v.ownBlock → K (a.put o.dst v') w') : o.wpIn F n P a w K Q := by
  obtain ⟨v', w', hrun, r1, r2, r3⟩ := run_append_own (P := P) w base t o.type e i z size bytes h1 h2 h3 h4 h5 h6 h7 v k xs hown ad m c news hn hc h1c b1 b2 b3
  unfold Oper.wpIn
  refine ⟨?_, ?_⟩
  · simp [Oper.about, hop, resolve, Target.leads, Sem.run_pure]
  · rw [Oper.semAt_plain F _ _ (by rw [hop]; intro c hc'; cases hc')]
    simp [execOp, hop, resolve, invoke, builtin, hs, hx, hrun, Result.andThen]
    exact hK v' w' r1 r2
/-- Behind an append to the slice in a variable's box: the row lies from n1 on, the box from n0 on, and the block Bs ahead of n1 is as it was. -/
theorem appended2 {W w1 : World} {n₀ n₁ B Bs : Nat} {t e : TypeId} {size : Nat} {v v' : Value} {k m : Nat} {xs ys : List Value} {tmp : Obj}
    (hv : Boxed W B t v) (hte : t ≠ e) (hrow : W.ownsRow n₁ e size v k xs) (hn₁ : n₁ ≤ W.heap.size) (h01 : n₀ ≤ n₁) (hB : n₀ ≤ B) (hBs : Bs < n₁) (hne : Bs ≠ B)
    (hown' : w1.ownsRow n₁ e size v' m ys) (hgrow : (W.alloc tmp).grownBy w1 v.ownBlock) :
    Boxed w1 B t v ∧ Boxed (w1.setCell ⟨B, 0, none⟩ v') B t v' ∧ (w1.setCell ⟨B, 0, none⟩ v').ownsRow n₁ e size v' m ys ∧ KeepsOthers W (w1.setCell ⟨B, 0, none⟩ v') ∧ KpT n₀ Bs W (w1.setCell ⟨B, 0, none⟩ v') := by
  have hv1 : Boxed w1 B t v := (hv.alloc tmp).kept hgrow (hv.not_row hte hrow)
  have hko : KeepsOthers W (w1.setCell ⟨B, 0, none⟩ v') := by
    refine ((KeepsOthers.alloc W tmp).trans (KeepsOthers.of_grownBy hgrow fun j o ej hj => ?_)).trans (KeepsOthers.setCell _ _ _)
    rcases (hrow.alloc tmp).2 with ⟨rfl, _⟩ | ⟨g, cap, cur, rfl, _, hgb, _⟩
    · simp [Value.ownBlock] at ej
    · obtain rfl : g = j := by simpa [Value.ownBlock] using ej
      rw [hgb] at hj; cases hj; rfl
  refine ⟨hv1, hv1.set v', hown'.kept (grownBy_setCell' w1 B v') (.inr (hv1.not_row hte hown').symm), hko, ?_, hko.walks, ?_⟩
  · refine (((Below.refl n₀ W).alloc (by omega) tmp).grown hgrow (by simp; omega) fun j ej => ?_).setCell (p := ⟨B, 0, none⟩) hB v'
    have := (hrow.lt j ej).1
    omega
  · have h1 : (w1.setCell ⟨B, 0, none⟩ v').heap[Bs]? = w1.heap[Bs]? := Below.heap_setCell w1 ⟨B, 0, none⟩ v' Bs hne
    have h2 : w1.heap[Bs]? = (W.alloc tmp).heap[Bs]? := hgrow.block Bs (by simp; omega) (fun e => by have := (hrow.lt Bs e.symm).1; omega)
    have h3 : (W.alloc tmp).heap[Bs]? = W.heap[Bs]? := Below.heap_alloc W tmp Bs (by omega)
    exact h1.trans (h2.trans h3)
theorem keeps_below {W w : World} (h : Below W.heap.size W w) : KeepsOthers W w := KeepsOthers.of_grownBy (row := none) ⟨h.os, h.tape, h.output, h.size, fun k hk _ => h.block k hk⟩ (fun j o ej => by cases ej)
theorem kpT_below {n₀ Bs : Nat} {W w : World} (h : Below W.heap.size W w) (h1 : n₀ ≤ W.heap.size) (h2 : Bs < W.heap.size) : KpT n₀ Bs W w := ⟨h.mono h1, (keeps_below h).walks, h.block _ h2⟩
theorem own_weaken {W : World} {base base' : Nat} {e : TypeId} {size : Nat} {v : Value} {k : Nat} {xs : List Value} (h : W.ownsRow base e size v k xs) (hb : base' ≤ base) : W.ownsRow base' e size v k xs := by
  refine ⟨h.1, ?_⟩
  rcases h.2 with h0 | ⟨g, cap, cur, rfl, hg, r⟩
  · exact .inl h0
  · exact .inr ⟨g, cap, cur, rfl, Nat.le_trans hb hg, r⟩
/-- What stands in the box of Words' result behind some pieces. -/
def WAt (L : List UInt8) (w : World) (pre : List (Px L)) (W : World) : Prop :=
  (∃ v, Boxed W w.heap.size 64 v ∧ W.ownsRow (w.heap.size + 2) 9 1 v pre.length (strC ((vals pre).map TK.foldL)) ∧ True) ∧ Below w.heap.size w W ∧ w.heap.size + 2 ≤ W.heap.size
theorem wAt_own (L : List UInt8) (w : World) (B : Nat) (hB : w.heap.size ≤ B) : OwnFrom B (WAt L w) :=
  OwnFrom.and (Own.from (holdsRow_own (w.heap.size + 2) w.heap.size 64 9 1 (fun pre : List (Px L) => pre.length) (fun pre => strC ((vals pre).map TK.foldL)) (fun _ _ => True)) _) (OwnFrom.and (ownFrom_below (Nat.le_refl _) hB) (fun s A B row hs hg hr => Nat.le_trans hs hg.size))
theorem rawp_mem {L x : List UInt8} (h : x ∈ TK.rawp L) : x.length ≤ L.length := by
  unfold TK.rawp at h
  rw [List.mem_map] at h
  obtain ⟨p, _, rfl⟩ := h
  exact piece_le L _ _
end Go.Proofs.YtmnmgbbdjpfonaaDoor
