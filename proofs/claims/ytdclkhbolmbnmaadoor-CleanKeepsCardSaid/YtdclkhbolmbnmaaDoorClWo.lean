/- clean: a batch without some of its records, by a contract. No condition but that they are not too many. -/
import Derived.Test.YtdclkhbolmbnmaaDoorClKey
import Derived.Test.YtdclkhbolmbnmaaDoorRowG
import Derived.Shelf.Abstract
namespace Go.Proofs.YtdclkhbolmbnmaaDoor
open Go.RowKit
set_option linter.unusedVariables false
/-- What is kept, by place. -/
def keepL (f : Nat → Rec → Bool) : Nat → List Rec → List Rec
  | _, [] => []
  | j, r :: l => if f j r then keepL f (j + 1) l else r :: keepL f (j + 1) l
theorem keepL_snoc (f : Nat → Rec → Bool) (r : Rec) : ∀ (j : Nat) (R : List Rec), keepL f j (R ++ [r]) = keepL f j R ++ (if f (j + R.length) r then [] else [r])
  | j, [] => by
    show keepL f j [r] = [] ++ _
    unfold keepL
    rw [show j + ([] : List Rec).length = j from rfl, show keepL f (j + 1) [] = [] from rfl]
    rfl
  | j, q :: l => by
    have ih := keepL_snoc f r (j + 1) l
    show keepL f j (q :: (l ++ [r])) = _
    unfold keepL
    rw [ih]
    have e : j + 1 + l.length = j + (q :: l).length := by rw [List.length_cons]; omega
    rw [e]
    split
    · rfl
    · rfl
/-- Under way: the batch's box, the result's, what is kept. -/
structure WoS (W : World) (bn : BN) (A : Option Addr) (c : Nat) (R : List RX) (f : Nat → Rec → Bool) (k : Nat) (B : Option Addr) (d : Nat) (M : List RX) (w : World) : Prop where
  bx : Box w W.heap.size 29 (bnC bn (.slice A R.length c))
  rs : Box w (W.heap.size + 1) 29 (bnC ⟨0, 0, 0, 0, 0⟩ (.slice none 0 0))
  row : RowR w W.heap.size (.slice B M.length d) M
  bel : Below W.heap.size W w
  same : M.map (·.1) = keepL f 0 ((R.map (·.1)).take k)
  len : M.length ≤ k
section
variable {W w w' : World} {bn : BN} {A : Option Addr} {c : Nat} {R : List RX} {f : Nat → Rec → Bool} {k : Nat} {B : Option Addr} {d : Nat} {M : List RX}
theorem WoS.later (h : WoS W bn A c R f k B d M w) (hb : Below w.heap.size w w') : WoS W bn A c R f k B d M w' :=
  ⟨h.bx.later hb, h.rs.later hb, h.row.later hb, h.bel.trans (hb.mono h.bel.size), h.same, h.len⟩
theorem keep_step {x : RX} (hx : R[k]? = some x) : keepL f 0 ((R.map (·.1)).take (k + 1)) = keepL f 0 ((R.map (·.1)).take k) ++ (if f k x.1 then [] else [x.1]) := by
  have hk := (List.getElem?_eq_some_iff.1 hx).1
  rw [List.take_add_one, List.getElem?_map, hx]
  show keepL f 0 (_ ++ [x.1]) = _
  rw [keepL_snoc, List.length_take, List.length_map, Nat.min_eq_left (Nat.le_of_lt hk), Nat.zero_add]
theorem WoS.drop {x : RX} (h : WoS W bn A c R f k B d M w) (hx : R[k]? = some x) (hf : f k x.1 = true) : WoS W bn A c R f (k + 1) B d M w :=
  ⟨h.bx, h.rs, h.row, h.bel, by rw [keep_step hx, hf, if_pos rfl, List.append_nil]; exact h.same, by have := h.len; omega⟩
/-- A store into a record's own box. -/
theorem WoS.far {b : Nat} {cs : Array Value} (h : WoS W bn A c R f k B d M w) (hb : Box w b 39 cs) (hB : ∀ j, (Value.slice B M.length d).ownBlock = some j → j ≠ b) (i : Nat) (u : Value) (hbl : W.heap.size ≤ b) : WoS W bn A c R f k B d M (w.setCell ⟨b, i, none⟩ u) := by
  have hO : Off (fun j => j = b) w (w.setCell ⟨b, i, none⟩ u) := Off.one w ⟨b, i, none⟩ u
  have hbx : ∀ {b' : Nat} {cs' : Array Value}, Box w b' 29 cs' → ¬ b' = b := fun hb' e => by
    subst e
    unfold Box at hb hb'
    rw [hb] at hb'
    injection hb' with hb'
    injection hb' with _ h2 _
    exact absurd h2 (by decide)
  exact ⟨h.bx.off hO (hbx h.bx), h.rs.off hO (hbx h.rs), ⟨own_off h.row.row hO (fun j hj e => hB j hj e), fun y hy => own_off (h.row.heads y hy) hO (own_ne (h.row.heads y hy) hb (by decide))⟩, h.bel.trans (hO.below h.bel.size (fun j hj => by have e : j = b := hj; omega)), h.same, h.len⟩
/-- A record more is kept. -/
theorem WoS.keep {x y : RX} {B' : Option Addr} {d' : Nat} (h : WoS W bn A c R f k B d M w) (hx : R[k]? = some x) (hf : f k x.1 = false) (hy : y.1 = x.1) (hh : w.ownsRow W.heap.size 62 2 (.slice y.2.1 y.1.heads.length y.2.2) y.1.heads.length (headCells y.1.heads))
    (ho : w'.ownsRow W.heap.size 39 7 (.slice B' (M.length + 1) d') (M.length + 1) (recsC M ++ (recC y.1 y.2.1 y.2.2).toList)) (hg : w.grownBy w' (Value.slice B M.length d).ownBlock) : WoS W bn A c R f (k + 1) B' d' (M ++ [y]) w' := by
  have hO : Off (fun j => (Value.slice B M.length d).ownBlock = some j) w w' := (Off.refl _ w).grown hg (fun j hj _ => hj)
  refine ⟨h.bx.off hO (fun e => own_ne h.row.row h.bx (by decide) _ e rfl), h.rs.off hO (fun e => own_ne h.row.row h.rs (by decide) _ e rfl), ?_, h.bel.grown hg h.bel.size (fun j hj => (h.row.row.lt j hj).1), ?_, by have := h.len; rw [List.length_append]; show M.length + 1 ≤ _; omega⟩
  · rw [List.length_append]
    exact h.row.grow hh ho hg
  · rw [List.map_append, h.same, keep_step hx, hf, if_neg (by decide), hy.symm]
    rfl
end
theorem wo_result {w : World} (g : Nat) {v0 v1 v2 v3 v4 v5 : Value} (h : Box w g 29 #[v0, v1, v2, v3, v4, v5]) (tmps : Array Value) (ht : (tmps[4]?).getD undef = .pointer (some ⟨g, 0, none⟩)) :
    (results Tryd.f21 tmps).run Tryd.prog w = .ok (.agg #[v0, v1, v2, v3, v4, v5]) w := by
  have c0 := (h.cell 0).trans (show _ = some v0 from rfl)
  have c1 := (h.cell 1).trans (show _ = some v1 from rfl)
  have c2 := (h.cell 2).trans (show _ = some v2 from rfl)
  have c3 := (h.cell 3).trans (show _ = some v3 from rfl)
  have c4 := (h.cell 4).trans (show _ = some v4 from rfl)
  have c5 := (h.cell 5).trans (show _ = some v5 from rfl)
  simp [results, Tryd.results21, go_sem, ht, c0, c1, c2, c3, c4, c5]
theorem hin_src {w : World} {A : Option Addr} {hs : List Hd} (h : HIn w A hs) (hA : A = none → hs = []) (c : Nat) : SrcZ 2 w (.slice A hs.length c) hs.length (headCells hs) := by
  cases A with
  | none => rw [hA rfl]; exact .inl ⟨c, rfl, rfl, rfl⟩
  | some a =>
    refine .inr ⟨a, c, rfl, headCells_len hs, fun j y hy => ?_⟩
    have hl := (List.getElem?_eq_some_iff.1 hy).1
    rw [headCells_len] at hl
    obtain ⟨b, off, e, hb, _⟩ := h (by omega)
    injection e with e
    subst e
    exact hin_cells h j y hy
theorem own_base2' {w : World} {b b' t size n : Nat} {v : Value} {xs : List Value} (h : w.ownsRow b t size v n xs) (hb : b' ≤ b) : w.ownsRow b' t size v n xs := by
  refine ⟨h.1, ?_⟩
  rcases h.2 with h0 | ⟨g, cap, cur, rfl, hbg, hg, hr⟩
  · exact .inl h0
  · exact .inr ⟨g, cap, cur, rfl, by omega, hg, hr⟩
/-- A batch without some of its records. -/
def Without (W : World) (bn : BN) (K : List Rec) (en : Ending) (w' : World) : Prop := ∃ (M : List RX) (A : Option Addr) (c : Nat), M.map (·.1) = K ∧ en = .returned (.agg (bnC bn (.slice A M.length c))) ∧ RowR w' W.heap.size (.slice A M.length c) M ∧ Below W.heap.size W w'
set_option maxHeartbeats 16000000 in
set_option maxRecDepth 100000 in
theorem without_c (g : Nat) (lb : Array Value) (f : Nat → Rec → Bool) (eg : ∀ args w, (callFunc g args).run Tryd.prog w = .ok (.enter g args) w) (bn : BN) (R : List RX) (A : Option Addr) (c : Nat) (W : World) (hA : RsIn W A R) (hl : R.length ≤ 1000) (hh : ∀ x ∈ R, x.1.heads.length ≤ 1000)
    (hp : ∀ (j : Nat) (x : RX) (w : World), R[j]? = some x → Below W.heap.size W w → Calls Tryd.prog g (#[.int .i64 j] ++ lb) w (Good w (.bool (f j x.1)))) :
    Calls Tryd.prog 21 #[.agg (bnC bn (.slice A R.length c)), .func (.func g) #[] lb] W (Without W bn (keepL f 0 (R.map (·.1)))) := by
  have hb1 : Below W.heap.size W (W.alloc (.cells (bnC bn (.slice A R.length c)) 29)) := (Below.refl _ _).alloc (Nat.le_refl _) _
  have hb2 : Below W.heap.size W ((W.alloc (.cells (bnC bn (.slice A R.length c)) 29)).alloc (.cells (bnC ⟨0, 0, 0, 0, 0⟩ (.slice none 0 0)) 29)) := hb1.alloc (by simp) _
  have hx1 := (Box.new W 29 (bnC bn (.slice A R.length c))).alloc (.cells (bnC ⟨0, 0, 0, 0, 0⟩ (.slice none 0 0)) 29)
  have hx2 := Box.new (W.alloc (.cells (bnC bn (.slice A R.length c)) 29)) 29 (bnC ⟨0, 0, 0, 0, 0⟩ (.slice none 0 0))
  rw [World.size_alloc] at hx2
  have H0 : Hid (WoS W bn A c R f 0 none 0 [] _) := Lib.hid ⟨hx1, hx2, RowR.nil _ _, hb2, rfl, Nat.le_refl _⟩
  have HA := Lib.hid hA
  have HHS := Lib.hid hh
  have HP := Lib.hid hp
  have y5 : ((W.alloc (.cells (bnC bn (.slice A R.length c)) 29)).alloc (.cells (bnC ⟨0, 0, 0, 0, 0⟩ (.slice none 0 0)) 29)).cell? ⟨W.heap.size, 5, none⟩ = some (.slice A R.length c) := (hx1.cell 5).trans rfl
  have yl := hx1.lt
  obtain ⟨base, span, prod, epoch, seq⟩ := bn
  clear hA hh hp hb1 hb2 hx1 hx2
  unfold bnC at y5 yl H0 ⊢
  obtain ⟨i0, hi, hz0, hz1, hz2⟩ := info_parts recInfo
  go_enter Tryd.func21, Tryd.ntmps21
  go_wp2_with fail
  go_loopw [5, 11] (fun l j wr => ∃ (k : Nat) (M : List RX) (B : Option Addr) (d : Nat), l = .slice B M.length d ∧ j = .int .i64 k ∧ k ≤ R.length ∧ WoS W ⟨base, span, prod, epoch, seq⟩ A c R f k B d M wr) (fun _ j _ => R.length - (intOf j).toNat)
  case atStart => exact ⟨0, [], none, 0, rfl, rfl, Nat.zero_le _, H0.out⟩
  case round =>
    obtain ⟨k, M, B, d, rfl, rfl, hk, hS⟩ := hrel
    clear H0 y5 yl
    by_cases hkl : k < R.length
    · obtain ⟨x, hx⟩ : ∃ x, R[k]? = some x := ⟨_, List.getElem?_eq_getElem hkl⟩
      obtain ⟨b, off, rfl, hbl, hca⟩ := (HA.out.below hS.bel) (by omega)
      obtain ⟨⟨x0, x1, x2, x3, x4, x5, x6⟩, hR⟩ := hca k x hx
      have hxl := HHS.out x (List.mem_of_getElem? hx)
      have HX := Lib.hid hx
      obtain ⟨⟨pl, tm, ba, ky, gn, va, hs⟩, hA2, hcc⟩ := x
      dsimp only at *
      have hA5 : Below wr.heap.size wr (wr.alloc (.cells #[.int .i64 pl, .int .i64 tm, .bool ba, .string ky, .bool gn, .string va, .slice hA2 hs.length hcc] 39)) := (Below.refl _ _).alloc (Nat.le_refl _) _
      have HS5 := Lib.hid (hS.later hA5)
      have HB5 := Lib.hid (Box.new wr 39 #[.int .i64 pl, .int .i64 tm, .bool ba, .string ky, .bool gn, .string va, .slice hA2 hs.length hcc])
      have hw := HP.out k _ _ hx (hS.bel.trans (hA5.mono hS.bel.size))
      have HHI := Lib.hid hR.heads
      have hnn : hA2 = none → hs = [] := fun e => by
        cases hs with
        | nil => rfl
        | cons a l =>
          obtain ⟨b9, o9, e9, _⟩ := hR.heads (show 0 < _ by simp)
          rw [e] at e9; cases e9
      have HNN := Lib.hid hnn
      have HML := Lib.hid (show M.length ≤ 1000 by have := hS.len; omega)
      have HSZ := Lib.hid hS.bel.size
      have HRB : Hid (∀ j, (Value.slice B M.length d).ownBlock = some j → j < wr.heap.size) := Lib.hid (fun j hj => (hS.row.row.lt j hj).2)
      have hki : (k : Int) < (R.length : Int) := by omega
      have hk0 : (0 : Int) ≤ (k : Int) := by omega
      generalize hW5 : (wr.alloc (.cells #[.int .i64 pl, .int .i64 tm, .bool ba, .string ky, .bool gn, .string va, .slice hA2 hs.length hcc] 39)) = W5 at *
      have HW5 := Lib.hid hW5
      have HA5 := Lib.hid hA5
      clear hS hca hx hR hnn hA5
      cases hf : f k ⟨pl, tm, ba, ky, gn, va, hs⟩ with
      | true =>
        rw [hf] at hw
        have HF := Lib.hid hf
        clear hf
        generalize hk7 : k * 7 = k7 at *
        go_wp2_with (go_at_fn g; (with_reducible refine hw.mono ?_); rintro e w6 ⟨rfl, hb6⟩)
        go_roundw
        case rel => exact ⟨k + 1, M, B, d, rfl, by go_num, hkl, (HS5.out.later hb6).drop HX.out HF.out⟩
        case measure => simp [intOf]; omega
      | false =>
        rw [hf] at hw
        have HF := Lib.hid hf
        clear hf
        generalize hk7 : k * 7 = k7 at *
        go_wp2_with fail
        go_at_fn g
        with_reducible refine hw.mono ?_
        rintro e w6 ⟨rfl, hb6⟩
        have hS6 := HS5.out.later hb6
        have hB6 := HB5.out.later hb6
        have hI6 := HHI.out.below (HA5.out.trans (hb6.mono HA5.out.size))
        obtain ⟨q0, q1, q2, q3, q4, q5, q6⟩ : w6.cell? ⟨wr.heap.size, 0, none⟩ = some (.int .i64 pl) ∧ w6.cell? ⟨wr.heap.size, 1, none⟩ = some (.int .i64 tm) ∧ w6.cell? ⟨wr.heap.size, 2, none⟩ = some (.bool ba) ∧ w6.cell? ⟨wr.heap.size, 3, none⟩ = some (.string ky) ∧ w6.cell? ⟨wr.heap.size, 4, none⟩ = some (.bool gn) ∧ w6.cell? ⟨wr.heap.size, 5, none⟩ = some (.string va) ∧ w6.cell? ⟨wr.heap.size, 6, none⟩ = some (.slice hA2 hs.length hcc) := ⟨(hB6.cell 0).trans rfl, (hB6.cell 1).trans rfl, (hB6.cell 2).trans rfl, (hB6.cell 3).trans rfl, (hB6.cell 4).trans rfl, (hB6.cell 5).trans rfl, (hB6.cell 6).trans rfl⟩
        obtain ⟨A7, c7, w7, r7, o7, g7⟩ := catZ (t := 37) (sz := 2) (by decide) Tryd.underlying37 infoHeader rfl (by decide) (World.ownsRow_nil w6 w6.heap.size 62 2) (hin_src hI6 HNN.out hcc) (fun y hy => headCells_one hs y hy) (Nat.le_refl _) (by have : hs.length ≤ 1000 := hxl; omega)
        rw [Nat.zero_add] at r7 o7
        rw [List.nil_append] at o7
        have hb7 : Below w6.heap.size w6 w7 := (Below.refl _ _).grown g7 (Nat.le_refl _) (fun j hj => by cases hj)
        have hB7 := hB6.later hb7
        have f7 := hB7.frozen 6
        have l7 := hB7.lt
        obtain ⟨u0, u1, u2, u3, u4, u5, u6⟩ : w7.cell? ⟨wr.heap.size, 0, none⟩ = some (.int .i64 pl) ∧ w7.cell? ⟨wr.heap.size, 1, none⟩ = some (.int .i64 tm) ∧ w7.cell? ⟨wr.heap.size, 2, none⟩ = some (.bool ba) ∧ w7.cell? ⟨wr.heap.size, 3, none⟩ = some (.string ky) ∧ w7.cell? ⟨wr.heap.size, 4, none⟩ = some (.bool gn) ∧ w7.cell? ⟨wr.heap.size, 5, none⟩ = some (.string va) ∧ w7.cell? ⟨wr.heap.size, 6, none⟩ = some (.slice hA2 hs.length hcc) := ⟨(hB7.cell 0).trans rfl, (hB7.cell 1).trans rfl, (hB7.cell 2).trans rfl, (hB7.cell 3).trans rfl, (hB7.cell 4).trans rfl, (hB7.cell 5).trans rfl, (hB7.cell 6).trans rfl⟩
        have hB8 := hB7.set 6 (.slice A7 hs.length c7)
        have hS8 := (hS6.later hb7).far hB7 (fun j hj => Nat.ne_of_lt (HRB.out j hj)) 6 (.slice A7 hs.length c7) HSZ.out
        have hsz6 := hS6.bel.size
        have o8 : (w7.setCell ⟨wr.heap.size, 6, none⟩ (.slice A7 hs.length c7)).ownsRow W.heap.size 62 2 (.slice A7 hs.length c7) hs.length (headCells hs) := own_off (own_base2' o7 hsz6) (Off.one w7 ⟨wr.heap.size, 6, none⟩ (.slice A7 hs.length c7)) (own_ne o7 hB7 (by decide))
        have hA9 : Below (w7.setCell ⟨wr.heap.size, 6, none⟩ (.slice A7 hs.length c7)).heap.size (w7.setCell ⟨wr.heap.size, 6, none⟩ (.slice A7 hs.length c7)) ((w7.setCell ⟨wr.heap.size, 6, none⟩ (.slice A7 hs.length c7)).alloc (.cells #[.int .i64 pl, .int .i64 tm, .bool ba, .string ky, .bool gn, .string va, .slice A7 hs.length c7] 39)) := (Below.refl _ _).alloc (Nat.le_refl _) _
        have hS9 := hS8.later hA9
        obtain ⟨A10, c10, w10, r10, o10, g10⟩ := catZ (t := 27) (ys := [.int .i64 pl, .int .i64 tm, .bool ba, .string ky, .bool gn, .string va, .slice A7 hs.length c7]) (u := .slice (some ⟨(w7.setCell ⟨wr.heap.size, 6, none⟩ (.slice A7 hs.length c7)).heap.size, 0, none⟩) 1 1) (m := 1) (by decide) Tryd.underlying27 recInfo rfl (by decide) hS9.row.row (.inr ⟨_, _, rfl, rfl, fun j y hy => by
          rw [add_spot, Nat.zero_add, (Box.new _ 39 _).cell j]
          simpa using hy⟩) (rec_one ⟨pl, tm, ba, ky, gn, va, hs⟩ A7 c7) hS9.bel.size (by have := HML.out; omega)
        have HS10 := Lib.hid (hS9.keep (y := (⟨pl, tm, ba, ky, gn, va, hs⟩, A7, c7)) HX.out HF.out rfl (own_below o8 hA9) o10 g10)
        rw [World.size_setCell] at r10
        clear hS6 hB6 hI6 o7 g7 hb7 hB7 hB8 hS8 o8 hA9 hS9 o10 g10 hb6 hw
        go_wp2_with (at_builtin; first | refine wpList_append_run rfl (.const (.slice none 0 0)) (.tmp 20) 37 rfl _ _ _ rfl rfl r7 ?_ | refine wpList_append_run rfl (.tmp 23) (.tmp 25) 27 rfl _ _ _ rfl rfl r10 ?_)
        refine ⟨⟨k + 1, M ++ [(⟨pl, tm, ba, ky, gn, va, hs⟩, A7, c7)], A10, c10, by rw [List.length_append]; rfl, by go_num, hkl, HS10.out⟩, ?_⟩
        simp [intOf]; omega
    · have hkk : k = R.length := by omega
      have hki : ¬ (k : Int) < (R.length : Int) := by omega
      have hbx := hS.bx
      have hrs := hS.rs
      unfold bnC at hbx hrs
      dsimp only at hbx hrs
      have hl0 := hbx.lt
      have hl1 := hrs.lt
      obtain ⟨y0, y1, y2, y3, y4, y5⟩ : wr.cell? ⟨W.heap.size, 0, none⟩ = some (.int .i64 base) ∧ wr.cell? ⟨W.heap.size, 1, none⟩ = some (.int .i64 span) ∧ wr.cell? ⟨W.heap.size, 2, none⟩ = some (.int .i64 prod) ∧ wr.cell? ⟨W.heap.size, 3, none⟩ = some (.int .i64 epoch) ∧ wr.cell? ⟨W.heap.size, 4, none⟩ = some (.int .i64 seq) ∧ wr.cell? ⟨W.heap.size, 5, none⟩ = some (.slice A R.length c) := ⟨(hbx.cell 0).trans rfl, (hbx.cell 1).trans rfl, (hbx.cell 2).trans rfl, (hbx.cell 3).trans rfl, (hbx.cell 4).trans rfl, (hbx.cell 5).trans rfl⟩
      have f5 := hbx.frozen 5
      obtain ⟨z0, z1, z2, z3, z4, z5⟩ : wr.cell? ⟨W.heap.size + 1, 0, none⟩ = some (.int .i64 0) ∧ wr.cell? ⟨W.heap.size + 1, 1, none⟩ = some (.int .i64 0) ∧ wr.cell? ⟨W.heap.size + 1, 2, none⟩ = some (.int .i64 0) ∧ wr.cell? ⟨W.heap.size + 1, 3, none⟩ = some (.int .i64 0) ∧ wr.cell? ⟨W.heap.size + 1, 4, none⟩ = some (.int .i64 0) ∧ wr.cell? ⟨W.heap.size + 1, 5, none⟩ = some (.slice none 0 0) := ⟨(hrs.cell 0).trans rfl, (hrs.cell 1).trans rfl, (hrs.cell 2).trans rfl, (hrs.cell 3).trans rfl, (hrs.cell 4).trans rfl, (hrs.cell 5).trans rfl⟩
      have g0 := hrs.frozen 0
      have g1 := hrs.frozen 1
      have g2 := hrs.frozen 2
      have g3 := hrs.frozen 3
      have g4 := hrs.frozen 4
      have g5 := hrs.frozen 5
      have HS := Lib.hid hS
      have hO : Off (· = W.heap.size) wr (wr.setCell ⟨W.heap.size, 5, none⟩ (.slice B M.length d)) := Off.one wr ⟨W.heap.size, 5, none⟩ _
      have HO := Lib.hid hO
      have HRS := Lib.hid (hrs.off hO (by omega))
      have HRW := Lib.hid (hS.row.set hbx (by decide) (by decide) 5 (.slice B M.length d))
      clear hS hbx hrs hO
      go_wp2_with fail
      have e1 : M.map (·.1) = keepL f 0 (R.map (·.1)) := by
        have := HS.out.same
        rwa [List.take_of_length_le (by rw [List.length_map]; omega)] at this
      have hbe : Below W.heap.size W (bset (wr.setCell ⟨W.heap.size, 5, none⟩ (.slice B M.length d)) (W.heap.size + 1) (.int .i64 base) (.int .i64 span) (.int .i64 prod) (.int .i64 epoch) (.int .i64 seq) (.slice B M.length d)) :=
        below_off (below_off HS.out.bel HO.out (Nat.le_refl _)) (bset_off _ _ _ _ _ _ _ _) (Nat.le_succ _)
      exact bodyPost_ret (wo_result (W.heap.size + 1) (bset_box HRS.out (.int .i64 base) (.int .i64 span) (.int .i64 prod) (.int .i64 epoch) (.int .i64 seq) (.slice B M.length d)) _ rfl) rfl ⟨M, B, d, e1, rfl, HRW.out.bset HRS.out (by decide) (by decide) _ _ _ _ _ _, hbe⟩
end Go.Proofs.YtdclkhbolmbnmaaDoor
