/- Merged texts. What each proves is told at its head. -/
import Derived.Test.YtjnphajkoopkgaaGreatDoorUZ
import Derived.Test.YtjnphajkoopkgaaGreatDoorUM
/- segment: what a segment keeps: places that add up, bases that rise, an index of them. Plain words. No condition. -/
namespace Go.Proofs.YtjnphajkoopkgaaGreatDoor
open Go.RowKit
set_option linter.unusedVariables false
abbrev BR := BN × List Rec
def PX.told (x : PX) : BR := (x.b, x.R.map (·.1))
def lenP (L : List PX) : Nat := (L.map fun x => (encB x.b x.R).size).sum
def endP (base : Int) (L : List PX) : Int := match L.getLast? with | some x => x.end_ | none => base
def lateP (L : List PX) : Int := L.foldl (fun t x => max t (lateG (x.R.map (·.1)))) 0
theorem lenP_snoc (L : List PX) (x : PX) : lenP (L ++ [x]) = lenP L + (encB x.b x.R).size := by unfold lenP; simp
theorem lateP_snoc (L : List PX) (x : PX) : lateP (L ++ [x]) = max (lateP L) (lateG (x.R.map (·.1))) := by unfold lateP; rw [List.foldl_append]; rfl
theorem endP_snoc (base : Int) (L : List PX) (x : PX) : endP base (L ++ [x]) = x.end_ := by unfold endP; simp
theorem lenP_le {L : List PX} (h : ∀ x ∈ L, batB x.b x.R = true) : lenP L ≤ L.length * 60008 := by
  induction L with
  | nil => exact Nat.zero_le _
  | cons x l ih =>
    have h1 := (encB_size (h x (by simp))).2
    have h2 := ih (fun y hy => h y (by simp [hy]))
    show (encB x.b x.R).size + lenP l ≤ _
    rw [List.length_cons]
    omega
/-- What an index has of batches. -/
structure IxOk (x : Ix.Ix) (L : List PX) : Prop where
  srt : Ix.Srt x.L
  len : x.L.length ≤ L.length
  any : L ≠ [] → x.L ≠ []
  last : ∀ y, L.getLast? = some y → x.lo = y.b.base ∧ x.lp = y.pos
  late : x.lt = lateP L
  bd : ∀ e ∈ x.L, e.1 ≤ x.lo ∧ e.2.1 ≤ x.lp ∧ e.2.2 ≤ x.lt
  of : ∀ e ∈ x.L, ∃ j y, L[j]? = some y ∧ e.1 = y.b.base ∧ e.2.1 = y.pos ∧ e.2.2 = lateP (L.take (j + 1))
theorem IxOk.new (every : Int) : IxOk ⟨every, [], 0, 0, 0⟩ [] := ⟨List.Pairwise.nil, Nat.le_refl _, fun h => absurd rfl h, fun y h => (by cases h), rfl, fun e he => (by cases he), fun e he => (by cases he)⟩
structure SgOk (s : SG) : Prop where
  name : Dk.nameB s.name = true
  base : 0 ≤ s.base ∧ s.base ≤ 1099511627776
  bats : ∀ x ∈ s.L, batB x.b x.R = true
  pos : ∀ j x, s.L[j]? = some x → x.pos = (lenP (s.L.take j) : Int) ∧ x.size = ((encB x.b x.R).size : Int)
  chain : ∀ j x, s.L[j]? = some x → endP s.base (s.L.take j) ≤ x.b.base
  ix : IxOk s.x s.L
theorem SG.end_eq (s : SG) : s.end_ = endP s.base s.L := rfl
theorem snoc_last {α : Type} {L : List α} {x : α} (h : L.getLast? = some x) : ∃ L0, L = L0 ++ [x] ∧ L[L0.length]? = some x ∧ L.take L0.length = L0 := by
  rcases List.eq_nil_or_concat L with rfl | ⟨L0, y, rfl⟩
  · cases h
  · have : y = x := by simpa using h
    subst this
    exact ⟨L0, by simp, by simp, by simp⟩
theorem SgOk.size {s : SG} (h : SgOk s) : s.size = (lenP s.L : Int) := by
  unfold SG.size
  cases hl : s.L.getLast? with
  | none => rw [List.getLast?_eq_none_iff.1 hl]; rfl
  | some x =>
    obtain ⟨L0, e, hx, ht⟩ := snoc_last hl
    obtain ⟨h1, h2⟩ := h.pos _ _ hx
    show x.pos + x.size = _
    rw [h1, h2, ht, e, lenP_snoc]
    omega
theorem bat_num {b : BN} {R : List RX} (h : batB b R = true) : (0 ≤ b.base ∧ b.base ≤ 1099511627776) ∧ (1 ≤ b.span ∧ b.span ≤ 50) := by
  unfold batB numB wi at h
  simp only [Bool.and_eq_true, decide_eq_true_eq] at h
  exact ⟨h.1.1.1.1, h.1.1.1.2, h.1.1.2⟩
theorem bat_recs {b : BN} {R : List RX} (h : batB b R = true) : R.length ≤ 50 ∧ ∀ x ∈ R, okRec x.1 = true := by
  unfold batB at h
  simp only [Bool.and_eq_true, decide_eq_true_eq] at h
  have h2 := h.2.2.1
  rw [goodL_eq, Bool.and_eq_true] at h2
  exact ⟨h.2.1, fun x hx => List.all_eq_true.1 h2.2 x hx⟩
theorem late_range {R : List Rec} (h : ∀ r ∈ R, 0 ≤ r.time ∧ r.time ≤ 1099511627776) : 0 ≤ lateG R ∧ lateG R ≤ 1099511627776 := by
  have key : ∀ (R : List Rec) (t : Int), 0 ≤ t → t ≤ 1099511627776 → (∀ r ∈ R, 0 ≤ r.time ∧ r.time ≤ 1099511627776) → 0 ≤ R.foldl (fun t r => max t r.time) t ∧ R.foldl (fun t r => max t r.time) t ≤ 1099511627776 := by
    intro R
    induction R with
    | nil => intro t h1 h2 _; exact ⟨h1, h2⟩
    | cons r l ih =>
      intro t h1 h2 h
      have h3 := h r (by simp)
      exact ih (max t r.time) (by omega) (by omega) (fun q hq => h q (by simp [hq]))
  exact key R 0 (by decide) (by decide) h
theorem bat_late {b : BN} {R : List RX} (h : batB b R = true) : 0 ≤ lateG (R.map (·.1)) ∧ lateG (R.map (·.1)) ≤ 1099511627776 :=
  late_range (fun r hr => by
    obtain ⟨x, hx, rfl⟩ := List.mem_map.1 hr
    exact (okRec_parts ((bat_recs h).2 x hx)).1.2.2)
theorem SgOk.px {s : SG} (h : SgOk s) (hl : s.L.length ≤ 600000) : ∀ x ∈ s.L, PxN x := by
  intro x hx
  obtain ⟨j, hj⟩ := List.mem_iff_getElem?.1 hx
  obtain ⟨h1, h2⟩ := h.pos j x hj
  obtain ⟨n1, n2⟩ := bat_num (h.bats x hx)
  have h3 := (encB_size (h.bats x hx)).2
  have h4 := lenP_le (L := s.L.take j) (fun y hy => h.bats y (List.mem_of_mem_take hy))
  have h5 : (s.L.take j).length ≤ 600000 := (by rw [List.length_take]; omega)
  refine ⟨n1, n2, ⟨by omega, ?_⟩, ⟨by omega, by omega⟩⟩
  have := Nat.mul_le_mul_right 60008 h5
  omega
/-- A batch that may follow is the last one. -/
theorem IxOk.add {x : Ix.Ix} {L : List PX} {base : Int} {y : PX} (h : IxOk x L) (hb : batB y.b y.R = true) (hp : y.pos = (lenP L : Int)) (hc : endP base L ≤ y.b.base) (hl : L.length ≤ 600000) (hbt : ∀ z ∈ L, batB z.b z.R = true)
    (hps : ∀ z, L.getLast? = some z → z.pos < y.pos) : IxOk (x.add y.b.base y.pos (lateG (y.R.map (·.1)))) (L ++ [y]) := by
  obtain ⟨⟨b1, b2⟩, _, _⟩ := bat_num hb
  obtain ⟨t1, t2⟩ := bat_late hb
  have hlen := lenP_le hbt
  have hm := Nat.mul_le_mul_right 60008 hl
  have hris : x.L.length = 0 ∨ (x.lo < y.b.base ∧ x.lp < y.pos) := by
    cases hlast : L.getLast? with
    | none =>
      have : L = [] := List.getLast?_eq_none_iff.1 hlast
      subst this
      have := h.len
      exact .inl (by simpa using this)
    | some z =>
      obtain ⟨e1, e2⟩ := h.last z hlast
      have hz := hps z hlast
      have he : endP base L = z.end_ := by unfold endP; rw [hlast]
      have hsp := (bat_num (hbt z (List.mem_of_getLast? hlast))).2
      rw [he] at hc
      unfold PX.end_ at hc
      exact .inr ⟨by omega, by omega⟩
  have hok : x.ok y.b.base y.pos (lateG (y.R.map (·.1))) = true := by
    unfold Ix.Ix.ok Ix.ixo Ix.risesB
    simp only [Bool.and_eq_true, Bool.or_eq_true, decide_eq_true_eq]
    exact ⟨⟨b1, b2⟩, ⟨by omega, by omega⟩, ⟨t1, t2⟩, hris⟩
  have hadd : x.add y.b.base y.pos (lateG (y.R.map (·.1))) = ⟨x.every, if Ix.dueB x y.pos = true then x.L ++ [(y.b.base, y.pos, max x.lt (lateG (y.R.map (·.1))))] else x.L, y.b.base, y.pos, max x.lt (lateG (y.R.map (·.1)))⟩ := by unfold Ix.Ix.add; rw [if_pos hok]
  have hbd : ∀ e ∈ x.L, e.1 < y.b.base ∧ e.2.1 < y.pos ∧ e.2.2 ≤ max x.lt (lateG (y.R.map (·.1))) := fun e he => by
    obtain ⟨h1, h2, h3⟩ := h.bd e he
    rcases hris with h0 | ⟨h4, h5⟩
    · have : x.L = [] := List.length_eq_zero_iff.1 h0
      rw [this] at he
      cases he
    · exact ⟨by omega, by omega, by omega⟩
  have hlt : max x.lt (lateG (y.R.map (·.1))) = lateP (L ++ [y]) := by rw [lateP_snoc, h.late]
  have hof : ∀ e ∈ x.L, ∃ j z, (L ++ [y])[j]? = some z ∧ e.1 = z.b.base ∧ e.2.1 = z.pos ∧ e.2.2 = lateP ((L ++ [y]).take (j + 1)) := fun e he => by
    obtain ⟨j, z, g1, g2, g3, g4⟩ := h.of e he
    have hj := (List.getElem?_eq_some_iff.1 g1).1
    exact ⟨j, z, by rw [List.getElem?_append_left hj]; exact g1, g2, g3, by rw [List.take_append_of_le_length (by omega)]; exact g4⟩
  rw [hadd]
  cases hd : Ix.dueB x y.pos with
  | true =>
    rw [if_pos rfl]
    refine ⟨?_, ?_, fun _ => by simp, fun z hz => ?_, hlt, fun e he => ?_, fun e he => ?_⟩
    · show List.Pairwise _ _
      rw [List.pairwise_append]
      refine ⟨h.srt, by simp, fun e he f hf => ?_⟩
      rw [List.mem_singleton] at hf
      subst hf
      exact hbd e he
    · show (x.L ++ [_]).length ≤ (L ++ [y]).length
      rw [List.length_append, List.length_append]
      have := h.len
      show x.L.length + 1 ≤ L.length + 1
      omega
    · have : z = y := by simpa using hz.symm
      subst this
      exact ⟨rfl, rfl⟩
    · rcases List.mem_append.1 he with he | he
      · have := hbd e he
        exact ⟨by show e.1 ≤ y.b.base; omega, by show e.2.1 ≤ y.pos; omega, this.2.2⟩
      · rw [List.mem_singleton] at he
        subst he
        exact ⟨Int.le_refl _, Int.le_refl _, Int.le_refl _⟩
    · rcases List.mem_append.1 he with he | he
      · exact hof e he
      · rw [List.mem_singleton] at he
        subst he
        refine ⟨L.length, y, by simp, rfl, rfl, ?_⟩
        rw [List.take_of_length_le (by simp)]
        exact hlt
  | false =>
    rw [if_neg (by decide)]
    have hne : x.L ≠ [] := fun e => by
      unfold Ix.dueB at hd
      rw [e] at hd
      simp at hd
    refine ⟨h.srt, ?_, fun _ => hne, fun z hz => ?_, hlt, fun e he => ?_, hof⟩
    · rw [List.length_append]
      have := h.len
      show x.L.length ≤ L.length + 1
      omega
    · have : z = y := by simpa using hz.symm
      subst this
      exact ⟨rfl, rfl⟩
    · have := hbd e he
      exact ⟨by show e.1 ≤ y.b.base; omega, by show e.2.1 ≤ y.pos; omega, this.2.2⟩
theorem SgOk.put {s : SG} {b : BN} {R : List RX} {A : Option Addr} {c : Nat} {iA : Option Addr} {iC : Nat} {B : Option Addr} {d : Nat} (h : SgOk s) (hl : s.L.length ≤ 600000) (hb : batB b R = true) (hc : s.end_ ≤ b.base) :
    SgOk (s.put ⟨b, R, A, c, s.size, ((encB b R).size : Int)⟩ iA iC B d) := by
  have hsz := h.size
  have hix : IxOk (s.x.add b.base s.size (lateG (R.map (·.1)))) (s.L ++ [⟨b, R, A, c, s.size, ((encB b R).size : Int)⟩]) := by
    refine h.ix.add (base := s.base) (y := ⟨b, R, A, c, s.size, ((encB b R).size : Int)⟩) hb hsz hc hl h.bats (fun z hz => ?_)
    obtain ⟨L0, e, hx, ht⟩ := snoc_last hz
    obtain ⟨h1, h2⟩ := h.pos _ _ hx
    have h3 := (encB_size (h.bats z (List.mem_of_getElem? hx))).1
    show z.pos < s.size
    rw [hsz, h1, ht]
    have h4 : lenP s.L = lenP L0 + (encB z.b z.R).size := by rw [← lenP_snoc, ← e]
    omega
  refine ⟨h.name, h.base, fun x hx => ?_, fun j x hj => ?_, fun j x hj => ?_, hix⟩
  · rcases List.mem_append.1 hx with hx | hx
    · exact h.bats x hx
    · rw [List.mem_singleton] at hx
      subst hx
      exact hb
  · have hj' : (s.L ++ [⟨b, R, A, c, s.size, ((encB b R).size : Int)⟩])[j]? = some x := hj
    show x.pos = (lenP ((s.L ++ [_]).take j) : Int) ∧ _
    by_cases hlt : j < s.L.length
    · rw [List.getElem?_append_left hlt] at hj'
      rw [List.take_append_of_le_length (by omega)]
      exact h.pos j x hj'
    · have hj2 : j < (s.L ++ [_]).length := (List.getElem?_eq_some_iff.1 hj').1
      rw [List.length_append] at hj2
      have hj2' : j < s.L.length + 1 := hj2
      have e : j = s.L.length := by omega
      subst e
      rw [List.getElem?_append_right (Nat.le_refl _), Nat.sub_self] at hj'
      injection hj' with hj'
      subst hj'
      rw [List.take_append_of_le_length (Nat.le_refl _), List.take_length]
      exact ⟨hsz, rfl⟩
  · have hj' : (s.L ++ [⟨b, R, A, c, s.size, ((encB b R).size : Int)⟩])[j]? = some x := hj
    show endP s.base ((s.L ++ [_]).take j) ≤ _
    by_cases hlt : j < s.L.length
    · rw [List.getElem?_append_left hlt] at hj'
      rw [List.take_append_of_le_length (by omega)]
      exact h.chain j x hj'
    · have hj2 : j < (s.L ++ [_]).length := (List.getElem?_eq_some_iff.1 hj').1
      rw [List.length_append] at hj2
      have hj2' : j < s.L.length + 1 := hj2
      have e : j = s.L.length := by omega
      subst e
      rw [List.getElem?_append_right (Nat.le_refl _), Nat.sub_self] at hj'
      injection hj' with hj'
      subst hj'
      rw [List.take_append_of_le_length (Nat.le_refl _), List.take_length]
      exact hc
end Go.Proofs.YtjnphajkoopkgaaGreatDoor
/- segment: Append and Sync: by contracts. No condition but that there are not too many. -/
namespace Go.Proofs.YtjnphajkoopkgaaGreatDoor
open Go.RowKit
set_option linter.unusedVariables false
/-- A disk and a segment of its that were made behind W. -/
structure SD (W : World) (p q : Nat) (a : Dk.Ab) (s : SG) (w : World) : Prop where
  dk : Dk.At W p a w
  sg : SgIs w W.heap.size q s
  hp : s.p = p
  ok : SgOk s
def SgSame (s s' : SG) : Prop := s'.name = s.name ∧ s'.base = s.base ∧ s'.x.every = s.x.every
/-- What a segment's call may write. -/
def SdF (W w : World) (s : SG) (q k : Nat) : Prop := SgF s q k ∨ AtS W w k
def SdOut (W : World) (p q : Nat) (s : SG) (w : World) (a' : Dk.Ab) (N : List BR) (w' : World) : Prop :=
  ∃ s', SD W p q a' s' w' ∧ s'.L.map PX.told = N ∧ SgSame s s' ∧ Off (SdF W w s q) w w' ∧ ∀ k, SgF s' q k → SgF s q k ∨ w.heap.size ≤ k
def GotSd (W : World) (p q : Nat) (s : SG) (w : World) (v : Value) (a' : Dk.Ab) (N : List BR) (e : Ending) (w' : World) : Prop := e = .returned v ∧ SdOut W p q s w a' N w'
section
variable {W w w' : World} {p q : Nat} {a a' : Dk.Ab} {s : SG}
theorem SD.later (h : SD W p q a s w) (hb : Below w.heap.size w w') : SD W p q a s w' := ⟨h.dk.later hb, h.sg.later hb, h.hp, h.ok⟩
theorem SD.bel (h : SD W p q a s w) : Below W.heap.size W w := h.dk.2
theorem SdOut.stay (h : SD W p q a s w) (hb : Below w.heap.size w w') : SdOut W p q s w a (s.L.map PX.told) w' := ⟨s, h.later hb, rfl, ⟨rfl, rfl, rfl⟩, Off.of_below _ hb, fun k hk => .inl hk⟩
theorem SD.disk {v : Value} {e : Ending} (h : SD W p q a s w) (hd : DkOut W w p v a' e w') : e = .returned v ∧ SD W p q a' s w' ∧ Off (AtS W w) w w' :=
  ⟨hd.1, ⟨hd.2.1, h.sg.disk hd.2.2, h.hp, h.ok⟩, hd.2.2⟩
theorem encB_congr (b : BN) {L M : List RX} (h : M.map (·.1) = L.map (·.1)) : encB b M = encB b L := by
  unfold encB bodyB
  rw [batB_congr b h, bodyL_congr b h]
end
theorem SD.two {W w : World} {p q : Nat} {a : Dk.Ab} {s : SG} (h : SD W p q a s w) : w.cell? ⟨q, 0, none⟩ = some (.pointer (some ⟨p, 0, none⟩)) ∧ w.cell? ⟨q, 1, none⟩ = some (.string s.name) ∧ q < w.heap.size := by
  obtain ⟨y0, y1, y2, y3, y4⟩ := h.sg.cells
  rw [h.hp] at y0
  exact ⟨y0, y1, h.sg.box.lt⟩
theorem at_old {W w w' : World} {k : Nat} (hb : Below w.heap.size w w') (hk : k < w.heap.size) (h : AtS W w' k) : AtS W w k := by
  have e := hb.block k hk
  refine ⟨h.1, ?_⟩
  rcases h.2 with ⟨cs, t, z, h1, h2⟩ | ⟨es, c, h1⟩
  · exact .inl ⟨cs, t, z, e ▸ h1, h2⟩
  · exact .inr ⟨es, c, e ▸ h1⟩
def apE (a : Dk.Ab) (s : SG) (b : BN) (R : List RX) : Int := if batB b R = true then (if b.base < s.end_ then 1 else Dk.appE a s.name (encB b R)) else 1
def apA (a : Dk.Ab) (s : SG) (b : BN) (R : List RX) : Dk.Ab := if apE a s b R = 0 then Dk.appA a s.name (encB b R) else a
def apN (a : Dk.Ab) (s : SG) (b : BN) (R : List RX) : List BR := if apE a s b R = 0 then s.L.map PX.told ++ [(b, R.map (·.1))] else s.L.map PX.told
theorem app_ba (x : ByteArray) : x ++ ⟨#[]⟩ = x := by
  apply ByteArray.ext
  simp
/-- Behind a put of what was appended to the disk. -/
theorem put_out {W w w1 w2 w3 : World} {p q : Nat} {a a' : Dk.Ab} {s : SG} {b : BN} {R M : List RX} {A : Option Addr} {c : Nat} {e : Ending} (h : SD W p q a s w) (hl : s.L.length ≤ 600000) (h1 : SD W p q a' s w1) (ho1 : Off (AtS W w) w w1) (hb2 : Below w1.heap.size w1 w2) (hM : M.map (·.1) = R.map (·.1)) (hb : batB b R = true) (hc : s.end_ ≤ b.base)
    (hg : GotPut w2 W.heap.size q s ⟨b, M, A, c, s.size, ((encB b R).size : Int)⟩ e w3) : e = .returned (.tuple #[]) ∧ SdOut W p q s w a' (s.L.map PX.told ++ [(b, R.map (·.1))]) w3 := by
  obtain ⟨rfl, iA, iC, B, d, hI, ho, hn⟩ := hg
  have hbM : batB b M = true := by rw [batB_congr b hM]; exact hb
  have hok := h.ok.put (A := A) (c := c) (iA := iA) (iC := iC) (B := B) (d := d) hl hbM hc
  rw [encB_congr b hM] at hok
  have h2 := h1.later hb2
  have hlow : ∀ k, SgF s q k → W.heap.size ≤ k := fun k hk => (sg_low h2.sg hk).1
  have hdk : Dk.At W p a' w3 := at_off h2.dk ho (fun k hk _ hd => hd.apart (sg_kind h2.sg hk) (by decide)) hlow
  refine ⟨rfl, _, ⟨hdk, hI, h.hp, hok⟩, ?_, ⟨rfl, rfl, ?_⟩, ?_, fun k hk => ?_⟩
  · show (s.L ++ [_]).map PX.told = _
    rw [List.map_append]
    show _ ++ [(b, M.map (·.1))] = _
    rw [hM]
  · show (s.x.add _ _ _).every = _
    unfold Ix.Ix.add
    split <;> rfl
  · refine (((ho1.mono (fun k _ hk => (.inr hk : SdF W w s q k))).later hb2).trans ho (fun k _ hk => .inl hk))
  · rcases hn k hk with hk | hk
    · exact .inl hk
    · exact .inr (Nat.le_trans (Nat.le_trans ho1.size hb2.size) hk)
set_option maxHeartbeats 8000000 in
set_option maxRecDepth 100000 in
theorem append_c (W w : World) (p q : Nat) (a : Dk.Ab) (s : SG) (b : BN) (R : List RX) (A : Option Addr) (c : Nat) (h : SD W p q a s w) (hT : Tab W) (hl : s.L.length ≤ 600000) (ha : a.L.length ≤ 1000000) (hin : RsIn w A R) (hR : R.length ≤ 140737488351232) :
    Calls Tryz.prog 19 #[sp q, .agg (bnC b (.slice A R.length c))] w (GotSd W p q s w (.int .i64 (apE a s b R)) (apA a s b R) (apN a s b R)) := by
  obtain ⟨base, span, prod, epoch, seq⟩ := b
  have hb0 : Below w.heap.size w (w.alloc (.cells #[.int .i64 base, .int .i64 span, .int .i64 prod, .int .i64 epoch, .int .i64 seq, .slice A R.length c] 44)) := (Below.refl _ _).alloc (Nat.le_refl _) _
  have hx := Box.new w 44 #[.int .i64 base, .int .i64 span, .int .i64 prod, .int .i64 epoch, .int .i64 seq, .slice A R.length c]
  have ce := fun w' (hb : Below w.heap.size w w') => pencode_c ⟨base, span, prod, epoch, seq⟩ A c R w' (hin.below hb) hR (hT.below (h.bel.trans (hb.mono h.bel.size)))
  have H := Lib.hid h
  have HB0 := Lib.hid hb0
  have HX := Lib.hid hx
  unfold bnC encV sp at *
  unfold batE at ce
  dsimp only at *
  go_enter Tryz.func19, Tryz.ntmps19
  cases hbb : batB ⟨base, span, prod, epoch, seq⟩ R with
  | false =>
    have e1 : apE a s ⟨base, span, prod, epoch, seq⟩ R = 1 := by unfold apE; rw [if_neg (by rw [hbb]; decide)]
    have e2 : apA a s ⟨base, span, prod, epoch, seq⟩ R = a := by unfold apA; rw [e1]; rfl
    have e3 : apN a s ⟨base, span, prod, epoch, seq⟩ R = s.L.map PX.told := by unfold apN; rw [e1]; rfl
    rw [e1, e2, e3]
    have c1 := ce _ hb0
    rw [hbb, if_neg (by decide)] at c1
    clear h hb0 hx e1 e2 e3 hbb ce
    go_wp2_with fail
    (with_reducible refine c1.mono ?_)
    rintro e w1 ⟨rfl, hb1⟩
    have HB1 := Lib.hid (HB0.out.trans (hb1.mono HB0.out.size))
    clear c1 hb1
    go_wp2_with fail
    go_quiet (fail)
    go_wp2_with fail
    go_ret
    exact ⟨rfl, SdOut.stay H.out (HB1.out.trans ⟨rfl, rfl, rfl, Nat.le_refl _, fun _ _ => rfl⟩)⟩
  | true =>
    have c1 := ce _ hb0
    rw [hbb, if_pos rfl] at c1
    have HBB := Lib.hid hbb
    generalize hE : encB ⟨base, span, prod, epoch, seq⟩ R = E at *
    have HE := Lib.hid hE
    have cend := fun w' (hb : Below w.heap.size w w') => end_c s W.heap.size q w' (h.sg.later hb) (h.ok.px hl) (by omega)
    have CEND := Lib.hid cend
    clear h hb0 hx hbb ce hE cend
    go_wp2_with fail
    (with_reducible refine c1.mono ?_)
    rintro e w1 ⟨rfl, hb1⟩
    have hb01 := HB0.out.trans (hb1.mono HB0.out.size)
    have HB1 := Lib.hid hb01
    have hx1 := HX.out.later hb1
    have hs : w1.cell? ⟨w.heap.size, 0, none⟩ = some (.int .i64 base) ∧ w.heap.size < w1.heap.size ∧ Below w.heap.size w w1 := ⟨(hx1.cell 0).trans rfl, hx1.lt, hb01⟩
    have hstep := fun (v v' : World) (h : v.cell? ⟨w.heap.size, 0, none⟩ = some (.int .i64 base) ∧ w.heap.size < v.heap.size ∧ Below w.heap.size w v) (hb : Below v.heap.size v v') => (⟨(hb.cell (p := ⟨w.heap.size, 0, none⟩) h.2.1).trans h.1, Nat.lt_of_lt_of_le h.2.1 hb.size, h.2.2.trans (hb.mono h.2.2.size)⟩ : v'.cell? ⟨w.heap.size, 0, none⟩ = some (.int .i64 base) ∧ w.heap.size < v'.heap.size ∧ Below w.heap.size w v')
    have cend := CEND.out
    unfold sp at cend
    clear c1 hb1 hx1
    by_cases hc : base < s.end_
    · have e1 : apE a s ⟨base, span, prod, epoch, seq⟩ R = 1 := by unfold apE; rw [if_pos HBB.out, if_pos hc]
      have e2 : apA a s ⟨base, span, prod, epoch, seq⟩ R = a := by unfold apA; rw [e1]; rfl
      have e3 : apN a s ⟨base, span, prod, epoch, seq⟩ R = s.L.map PX.told := by unfold apN; rw [e1]; rfl
      have HQ := Lib.hid (And.intro e1 (And.intro e2 e3))
      clear e1 e2 e3
      go_wp2_with fail
      go_region_held3 (fun v => v.cell? ⟨w.heap.size, 0, none⟩ = some (.int .i64 base) ∧ w.heap.size < v.heap.size ∧ Below w.heap.size w v) (first | exact hstep _ _ hs ((Below.refl _ _).drew) | exact hstep _ _ (by assumption) (by assumption))
        (first | ((with_reducible refine (cend _ (by first | exact hs.2.2.trans ((Below.refl _ _).drew.mono hs.2.2.size))).mono ?_); rintro e w2 ⟨rfl, hb2⟩))
      all_goals
        go_wp2_with fail
        go_ret
        rw [HQ.out.1, HQ.out.2.1, HQ.out.2.2]
        exact ⟨rfl, SdOut.stay H.out (hs.2.2.trans (((Below.refl _ _).drew.trans hb2).mono hs.2.2.size))⟩
    · have hle : s.end_ ≤ base := by omega
      have e1 : apE a s ⟨base, span, prod, epoch, seq⟩ R = Dk.appE a s.name E := by unfold apE; rw [if_pos HBB.out, if_neg hc, HE.out]
      have HQ := Lib.hid e1
      clear e1
      go_upto_region 4 with fail
      go_cut [26] from 18 to 26 (fun v wx => v = .bool false ∧ Below w.heap.size w wx)
      case first =>
        go_region_held3 (fun v => v.cell? ⟨w.heap.size, 0, none⟩ = some (.int .i64 base) ∧ w.heap.size < v.heap.size ∧ Below w.heap.size w v) (first | exact hstep _ _ hs ((Below.refl _ _).drew) | exact hstep _ _ (by assumption) (by assumption))
          (first | ((with_reducible refine (cend _ (by first | exact hs.2.2.trans ((Below.refl _ _).drew.mono hs.2.2.size))).mono ?_); rintro e w2 ⟨rfl, hb2⟩))
        all_goals
          go_wp2_with fail
          go_meet
          exact ⟨by first | rfl | exact congrArg Value.bool (decide_eq_false (by omega)), hs.2.2.trans (((Below.refl _ _).drew.trans hb2).mono hs.2.2.size)⟩
      case rest =>
        obtain ⟨rfl, hbc⟩ := hcut
        have hd := H.out.later hbc
        have HD := Lib.hid hd
        have HBC := Lib.hid hbc
        obtain ⟨y0, y1, hql⟩ := hd.two
        have hs2 := (hd.later (Below.refl _ _).drew).two
        have hnm : s.name.size ≤ 140737488351232 := by have := hd.ok.name; unfold Dk.nameB at this; simp at this; omega
        have hEs : E.size ≤ 281474976710656 := by rw [← HE.out]; have := (encB_size HBB.out).2; omega
        have ca := fun v (hv : SD W p q a s v) => (Dk.app_do p a (AtS W v) v s.name E hnm hEs (at_kind hv.dk) ha).mono (fun _ _ hd => at_out hv.dk hd)
        unfold Dk.dp at ca
        clear hs hstep cend hd hbc hnm hEs
        go_upto_region 6 with fail
        go_region_held3 (fun v => v.cell? ⟨q, 0, none⟩ = some (.pointer (some ⟨p, 0, none⟩)) ∧ v.cell? ⟨q, 1, none⟩ = some (.string s.name) ∧ q < v.heap.size) (first | exact hs2 | assumption)
          (first | ((with_reducible refine (ca _ (HD.out.later (Below.refl _ _).drew)).mono ?_); rintro e w3 hdk; obtain ⟨rfl, hsd3, hof3⟩ := (HD.out.later (Below.refl _ _).drew).disk hdk; have hq3 := hsd3.two))
        all_goals
          clear hdk ca hs2 hq3
          have HO3 := Lib.hid (And.intro hsd3 hof3)
          have HT3 : Hid (Tab w3) := Lib.hid (hT.below hsd3.bel)
          generalize hae : Dk.appE a s.name E = ae at *
          have HAE := Lib.hid hae
          clear hsd3 hof3 hae y0 y1 hql
          by_cases hz : ae = 0
          · subst hz
            have hdec := wrap_dec HBB.out ⟨#[]⟩
            rw [HE.out, app_ba] at hdec
            have cd := fun v => pdecode5_c E 0 v
            rw [hdec] at cd
            have cd3 := cd w3 (by rw [← HE.out]; have := (encB_size HBB.out).2; omega) HT3.out
            clear cd hdec
            go_wp2_with fail
            (with_reducible refine cd3.mono ?_)
            rintro e w4 ⟨M, A4, c4, hM, rfl, hr4, hb4⟩
            have hb5 : Below w4.heap.size w4 (w4.alloc (.cells #[.int .i64 base, .int .i64 span, .int .i64 prod, .int .i64 epoch, .int .i64 seq, .slice A4 M.length c4] 44)) := (Below.refl _ _).alloc (Nat.le_refl _) _
            have h5 := HO3.out.1.later (hb4.trans (hb5.mono hb4.size))
            have hRM : RowR (w4.alloc (.cells #[.int .i64 base, .int .i64 span, .int .i64 prod, .int .i64 epoch, .int .i64 seq, .slice A4 M.length c4] 44)) W.heap.size (.slice A4 M.length c4) M := (hr4.base HO3.out.1.bel.size).later hb5
            have hbM : batB ⟨base, span, prod, epoch, seq⟩ M = true := by rw [batB_congr _ hM]; exact HBB.out
            obtain ⟨hm50, hmok⟩ := bat_recs hbM
            have cp := sput_c s W.heap.size q ⟨base, span, prod, epoch, seq⟩ M A4 c4 (E.size : Int) _ h5.sg h5.bel.size (h5.ok.px hl) hl (by have := h5.ok.ix.len; omega) hRM (hRM.rsin hmok) (by omega)
            have HM := Lib.hid (And.intro hM (hb4.trans (hb5.mono hb4.size)))
            unfold bnC sp at *
            dsimp only at *
            clear hb4 hb5 h5 hRM hbM hm50 hmok hr4 cd3
            go_wp2_with fail
            (with_reducible refine cp.mono ?_)
            rintro e w6 hgp
            rw [← HE.out] at hgp
            have ho1 : Off (AtS W w) w w3 := (Off.of_below (AtS W w) (HBC.out.trans ((Below.refl _ _).drew.mono HBC.out.size))).trans HO3.out.2 (fun k hk h => at_old (HBC.out.trans ((Below.refl _ _).drew.mono HBC.out.size)) hk h)
            obtain ⟨rfl, hout⟩ := put_out H.out hl HO3.out.1 ho1 HM.out.2 HM.out.1 HBB.out hle hgp
            have e1 : apE a s ⟨base, span, prod, epoch, seq⟩ R = 0 := HQ.out
            have e2 : apA a s ⟨base, span, prod, epoch, seq⟩ R = Dk.appA a s.name E := by unfold apA; rw [e1, HE.out]; rfl
            have e3 : apN a s ⟨base, span, prod, epoch, seq⟩ R = s.L.map PX.told ++ [(⟨base, span, prod, epoch, seq⟩, R.map (·.1))] := by unfold apN; rw [e1]; rfl
            have HF := Lib.hid (And.intro (And.intro e1 (And.intro e2 e3)) hout)
            clear cp hgp ho1 hout e1 e2 e3
            go_wp2_with fail
            go_ret
            rw [HF.out.1.1, HF.out.1.2.1, HF.out.1.2.2]
            exact ⟨rfl, HF.out.2⟩
          · have hz' : (ae != 0) = true := by simpa using hz
            have HZ := Lib.hid hz
            clear hz
            go_wp2_with fail
            go_ret
            rw [HQ.out]
            have e2 : apA a s ⟨base, span, prod, epoch, seq⟩ R = a := by unfold apA; rw [HQ.out, if_neg HZ.out]
            have e3 : apN a s ⟨base, span, prod, epoch, seq⟩ R = s.L.map PX.told := by unfold apN; rw [HQ.out, if_neg HZ.out]
            have e4 : Dk.appA a s.name E = a := by unfold Dk.appA; rw [HAE.out, if_neg HZ.out]
            rw [e2, e3]
            have h3 := HO3.out.1
            rw [e4] at h3
            exact ⟨rfl, s, h3, rfl, ⟨rfl, rfl, rfl⟩, (Off.of_below (SdF W w s q) (HBC.out.trans ((Below.refl _ _).drew.mono HBC.out.size))).trans HO3.out.2 (fun k hk h => .inr (at_old (HBC.out.trans ((Below.refl _ _).drew.mono HBC.out.size)) hk h)), fun k hk => .inl hk⟩
/-- Sync: an error of the disk's that there is no file is none. -/
def syE (a : Dk.Ab) (s : SG) : Int := if Dk.seeE a s.name.data.toList = 6 then 0 else Dk.seeE a s.name.data.toList
set_option maxHeartbeats 8000000 in
set_option maxRecDepth 100000 in
theorem sync_c (W w : World) (p q : Nat) (a : Dk.Ab) (s : SG) (h : SD W p q a s w) :
    Calls Tryz.prog 20 #[sp q] w (GotSd W p q s w (.int .i64 (syE a s)) (Dk.syncA a s.name.data.toList) (s.L.map PX.told)) := by
  have HD := Lib.hid h
  obtain ⟨y0, y1, hql⟩ := h.two
  have hs2 := (h.later (Below.refl _ _).drew).two
  have hnm : s.name.size ≤ maxLen := by have := h.ok.name; unfold Dk.nameB at this; simp at this; unfold maxLen; omega
  have ca := fun v (hv : SD W p q a s v) => (Dk.sync_do p a (AtS W v) v s.name hnm (at_kind hv.dk)).mono (fun _ _ hd => at_out hv.dk hd)
  unfold Dk.dp at ca
  unfold sp
  clear h hnm
  go_enter Tryz.func20, Tryz.ntmps20
  go_wp2_with fail
  go_region_held3 (fun v => v.cell? ⟨q, 0, none⟩ = some (.pointer (some ⟨p, 0, none⟩)) ∧ v.cell? ⟨q, 1, none⟩ = some (.string s.name) ∧ q < v.heap.size) (first | exact hs2 | assumption)
    (first | ((with_reducible refine (ca _ (HD.out.later (Below.refl _ _).drew)).mono ?_); rintro e w3 hdk; obtain ⟨rfl, hsd3, hof3⟩ := (HD.out.later (Below.refl _ _).drew).disk hdk; have hq3 := hsd3.two))
  all_goals
    clear hdk ca hs2 hq3
    have HR : Hid (SdOut W p q s w (Dk.syncA a s.name.data.toList) (s.L.map PX.told) w3) := Lib.hid ⟨s, hsd3, rfl, ⟨rfl, rfl, rfl⟩, (Off.of_below (SdF W w s q) ((Below.refl _ _).drew)).trans hof3 (fun k hk h => .inr (at_old (Below.refl _ _).drew hk h)), fun k hk => .inl hk⟩
    have HSY : Hid (syE a s = if Dk.seeE a s.name.data.toList = 6 then 0 else Dk.seeE a s.name.data.toList) := Lib.hid rfl
    generalize Dk.seeE a s.name.data.toList = ae at *
    clear hsd3 hof3 y0 y1 hql
    by_cases hz : ae = 6
    · have hz' : (ae == 6) = true := by simpa using hz
      have HZ := Lib.hid hz
      clear hz
      go_wp2_with fail
      go_ret
      rw [HSY.out, if_pos HZ.out]
      exact ⟨rfl, HR.out⟩
    · have hz' : (ae == 6) = false := by simpa using hz
      have HZ := Lib.hid hz
      clear hz
      go_wp2_with fail
      go_ret
      rw [HSY.out, if_neg HZ.out]
      exact ⟨rfl, HR.out⟩
end Go.Proofs.YtjnphajkoopkgaaGreatDoor
/- segment: what a scan finds may be, and has just so many bytes; which batches may follow one another. Plain words. No condition. -/
namespace Go.Proofs.YtjnphajkoopkgaaGreatDoor
open Go.RowKit
set_option linter.unusedVariables false
def toRX (R : List Rec) : List RX := R.map fun r => (r, none, 0)
theorem toRX_map (R : List Rec) : (toRX R).map (·.1) = R := by unfold toRX; rw [List.map_map]; exact List.map_id R
def encT (q : BR) : ByteArray := encB q.1 (toRX q.2)
def goodR (q : BR) : Prop := batB q.1 (toRX q.2) = true
def lenN (N : List BR) : Nat := (N.map fun q => (encT q).size).sum
def bytesN (N : List BR) : List UInt8 := N.flatMap fun q => (encT q).data.toList
theorem encT_told (x : PX) : encT x.told = encB x.b x.R := encB_congr x.b (toRX_map _)
theorem goodR_told {x : PX} (h : batB x.b x.R = true) : goodR x.told := (batB_congr x.b (toRX_map (x.R.map (·.1)))).trans h
theorem lenN_told (L : List PX) : lenN (L.map PX.told) = lenP L := by
  unfold lenN lenP
  rw [List.map_map]
  congr 1
  exact List.map_congr_left fun x _ => by show (encT x.told).size = _; rw [encT_told]
theorem lenN_app (M N : List BR) : lenN (M ++ N) = lenN M + lenN N := by unfold lenN; rw [List.map_append, List.sum_append]
theorem lenN_bytes : ∀ N : List BR, (bytesN N).length = lenN N
  | [] => rfl
  | q :: l => by
    show ((encT q).data.toList ++ bytesN l).length = (encT q).size + lenN l
    rw [List.length_append, lenN_bytes l]
    rfl
theorem body_ok {s : ByteArray} {p : Int} (h : (bodyG s p).2.2 = 0) : (bodyG s p).1.size ≤ 60000 ∧ (bodyG s p).2.1 = p + 8 + ((bodyG s p).1.size : Int) := by
  unfold bodyG at h ⊢
  by_cases h1 : p < 0 ∨ (s.size : Int) < p
  · rw [if_pos h1] at h; exact absurd h (by decide)
  rw [if_neg h1] at h ⊢
  by_cases h2 : s.size < p.toNat + 8
  · rw [if_pos h2] at h; exact absurd h (by decide)
  rw [if_neg h2] at h ⊢
  by_cases h3 : 60000 < rd4 s p.toNat
  · rw [if_pos h3] at h; exact absurd h (by decide)
  rw [if_neg h3] at h ⊢
  by_cases h4 : s.size < p.toNat + 8 + rd4 s p.toNat
  · rw [if_pos h4] at h; exact absurd h (by decide)
  rw [if_neg h4] at h ⊢
  by_cases h5 : sumN (s.extract (p.toNat + 8) (p.toNat + 8 + rd4 s p.toNat)) ≠ rd4 s (p.toNat + 4)
  · rw [if_pos h5] at h; exact absurd h (by decide)
  rw [if_neg h5] at h ⊢
  show (s.extract (p.toNat + 8) (p.toNat + 8 + rd4 s p.toNat)).size ≤ 60000 ∧ ((p.toNat + 8 + rd4 s p.toNat : Nat) : Int) = p + 8 + ((s.extract (p.toNat + 8) (p.toNat + 8 + rd4 s p.toNat)).size : Int)
  rw [ByteArray.size_extract]
  omega
/-- A batch that was decoded may be, and has just the bytes that it was decoded of. -/
theorem dec_bat {s : ByteArray} {p : Int} (h : (decG s p).2.2.2 = 0) {L : List RX} (hL : L.map (·.1) = (decG s p).2.1) : batB (decG s p).1 L = true ∧ (decG s p).2.2.1 = p + ((encB (decG s p).1 L).size : Int) := by
  unfold decG at h hL ⊢
  by_cases h1 : (bodyG s p).2.2 ≠ 0
  · rw [if_pos h1] at h; exact absurd h h1
  rw [if_neg h1] at h hL ⊢
  by_cases h2 : unpB (bodyG s p).1 = true
  · rw [if_pos h2] at h hL ⊢
    have h1' : (bodyG s p).2.2 = 0 := Decidable.not_not.1 h1
    obtain ⟨hs, hp⟩ := body_ok h1'
    generalize (bodyG s p).1 = t at *
    generalize (bodyG s p).2.1 = r at *
    have h2' := h2
    unfold unpB at h2
    simp only [Bool.and_eq_true, decide_eq_true_eq] at h2
    obtain ⟨g0, ⟨g1, gc⟩, g2, g3, _⟩ := h2
    have hb := inner_last hs g0 g1 gc g2 g3 hL
    rw [h2'] at hb
    have hbody := unp_body g0 g1 g2 g3
    have hz : (bodyB (nbn (nrd t 6).1) L).size = t.size := by
      rw [bodyB_size, bodyL_R, hL, ← hbody]
      rfl
    refine ⟨hb, ?_⟩
    show r = p + ((encB (nbn (nrd t 6).1) L).size : Int)
    unfold encB
    rw [if_pos hb, wrapB_size, hz, hp]
    omega
  · rw [if_neg h2] at h
    exact absurd h (by decide)
theorem dec_good {s : ByteArray} {p : Int} (h : (decG s p).2.2.2 = 0) : goodR ((decG s p).1, (decG s p).2.1) ∧ (decG s p).2.2.1 = p + ((encT ((decG s p).1, (decG s p).2.1)).size : Int) := dec_bat h (toRX_map _)
theorem scan_good {s : ByteArray} : ∀ (n : Nat) (p : Int), (∀ q ∈ (scanG s n p).1, goodR q) ∧ (scanG s n p).2 = p + (lenN (scanG s n p).1 : Int)
  | 0, p => ⟨fun q hq => (by cases hq), by show p = p + ((0 : Nat) : Int); omega⟩
  | n + 1, p => by
    unfold scanG
    by_cases h : (decG s p).2.2.2 ≠ 0
    · rw [if_pos h]
      exact ⟨fun q hq => (by cases hq), by show p = p + ((0 : Nat) : Int); omega⟩
    · rw [if_neg h]
      obtain ⟨h1, h2⟩ := dec_good (Decidable.not_not.1 h)
      obtain ⟨i1, i2⟩ := scan_good n (decG s p).2.2.1
      refine ⟨fun q hq => ?_, ?_⟩
      · rcases List.mem_cons.1 hq with rfl | hq
        · exact h1
        · exact i1 q hq
      · show (scanG s n (decG s p).2.2.1).2 = p + (((encT ((decG s p).1, (decG s p).2.1)).size + lenN (scanG s n (decG s p).2.2.1).1 : Nat) : Int)
        rw [i2, h2]
        omega
/-- As many of them as may follow one another. -/
def followN (e : Int) : List BR → List BR
  | [] => []
  | q :: l => if q.1.base < e then [] else q :: followN (q.1.base + q.1.span) l
theorem followN_sub (e : Int) : ∀ N : List BR, ∃ M, N = followN e N ++ M
  | [] => ⟨[], rfl⟩
  | q :: l => by
    unfold followN
    split
    · exact ⟨q :: l, rfl⟩
    · obtain ⟨M, hM⟩ := followN_sub (q.1.base + q.1.span) l
      exact ⟨M, by rw [List.cons_append, ← hM]⟩
def endN (base : Int) (N : List BR) : Int := match N.getLast? with | some q => q.1.base + q.1.span | none => base
theorem endN_told (base : Int) (L : List PX) : endN base (L.map PX.told) = endP base L := by
  unfold endN endP
  rw [List.getLast?_map]
  cases L.getLast? <;> rfl
theorem scan_le {s : ByteArray} : ∀ (n : Nat) (p : Int), p ≤ s.size → (scanG s n p).2 ≤ s.size
  | 0, p, h => h
  | n + 1, p, h => by
    unfold scanG
    by_cases hd : (decG s p).2.2.2 ≠ 0
    · rw [if_pos hd]; exact h
    · rw [if_neg hd]
      exact scan_le n _ (decG_up (Decidable.not_not.1 hd)).2.2
theorem lenN_ge : ∀ {N : List BR}, (∀ q ∈ N, goodR q) → 8 * N.length ≤ lenN N
  | [], _ => Nat.le_refl _
  | q :: l, h => by
    have ih := lenN_ge (N := l) (fun x hx => h x (List.mem_cons_of_mem _ hx))
    have h1 : 8 ≤ (encT q).size := (encB_size (h q (List.mem_cons_self ..))).1
    show 8 * (l.length + 1) ≤ (encT q).size + lenN l
    omega
theorem scan_few {s : ByteArray} (h : s.size ≤ 4194304) : (scanG s (s.size + 1) 0).1.length ≤ 600000 ∧ lenN (scanG s (s.size + 1) 0).1 ≤ s.size := by
  obtain ⟨h1, h2⟩ := scan_good (s := s) (s.size + 1) 0
  have h3 := scan_le (s := s) (s.size + 1) 0 (by omega)
  have h4 := lenN_ge h1
  omega
end Go.Proofs.YtjnphajkoopkgaaGreatDoor
/- segment: load: the batches with which bytes begin: by a contract. No condition but that there are not too many. -/
namespace Go.Proofs.YtjnphajkoopkgaaGreatDoor
open Go.RowKit
set_option linter.unusedVariables false
theorem btsR_off {w w' : World} {T : Nat → Prop} {base : Nat} {v : Value} {L : List BX} (h : BtsR w base v L) (ho : Off T w w') (hT : ∀ k, T k → ¬ TyB [44, 85, 87] w k) : BtsR w' base v L :=
  ⟨own_off h.row ho (fun k hk ht => hT k ht (.row h.row hk (by decide))), fun x hx => rowR_off (h.recs x hx) ho (fun k ht hr => hT k ht (by
    obtain ⟨cs, t, z, h1, h2⟩ := hr
    exact ⟨cs, t, z, h1, List.mem_cons_of_mem _ h2⟩))⟩
/-- A load under way. -/
def LdS (W w0 : World) (p q : Nat) (a : Dk.Ab) (s : SG) (N : List BR) (w : World) : Prop := ∃ s', SD W p q a s' w ∧ s'.L.map PX.told = N ∧ SgSame s s' ∧ Below w0.heap.size w0 w ∧ ∀ k, SgF s' q k → w0.heap.size ≤ k
theorem LdS.later {W w0 w w' : World} {p q : Nat} {a : Dk.Ab} {s : SG} {N : List BR} (h : LdS W w0 p q a s N w) (hb : Below w.heap.size w w') : LdS W w0 p q a s N w' := by
  obtain ⟨s', h1, h2, h3, h4, h5⟩ := h
  exact ⟨s', h1.later hb, h2, h3, h4.trans (hb.mono h4.size), h5⟩
def GotLd (W w0 : World) (p q : Nat) (a : Dk.Ab) (s : SG) (N : List BR) (e : Ending) (w' : World) : Prop := e = .returned (.tuple #[]) ∧ LdS W w0 p q a s N w'
theorem end_told {s s' : SG} (h : SgSame s s') {N : List BR} (ht : s'.L.map PX.told = N) : s'.end_ = endN s.base N := by
  rw [SG.end_eq, ← endN_told, ht, h.2.1]
theorem follow_take {base : Int} {N : List BR} {k : Nat} {q : BR} (hq : N[k]? = some q) : followN base N = N.take k ++ followN (endN base (N.take k)) (N.drop k) → ¬ q.1.base < endN base (N.take k) → followN base N = N.take (k + 1) ++ followN (endN base (N.take (k + 1))) (N.drop (k + 1)) := by
  intro h hn
  obtain ⟨hk, he⟩ := List.getElem?_eq_some_iff.1 hq
  have hd : N.drop k = q :: N.drop (k + 1) := by rw [List.drop_eq_getElem_cons hk, he]
  have ht : N.take (k + 1) = N.take k ++ [q] := by rw [List.take_add_one, hq]; rfl
  have hend : endN base (N.take k ++ [q]) = q.1.base + q.1.span := by unfold endN; simp
  rw [h, hd, followN, if_neg hn, ht, hend, List.append_assoc]
  rfl
theorem follow_stop {base : Int} {N : List BR} {k : Nat} {q : BR} (hq : N[k]? = some q) (h : followN base N = N.take k ++ followN (endN base (N.take k)) (N.drop k)) (hn : q.1.base < endN base (N.take k)) : followN base N = N.take k := by
  obtain ⟨hk, he⟩ := List.getElem?_eq_some_iff.1 hq
  have hd : N.drop k = q :: N.drop (k + 1) := by rw [List.drop_eq_getElem_cons hk, he]
  rw [h, hd, followN, if_pos hn, List.append_nil]
theorem put_in {W w w3 : World} {p q : Nat} {a : Dk.Ab} {s : SG} {b : BN} {R : List RX} {A : Option Addr} {c : Nat} {e : Ending} (h : SD W p q a s w) (hl : s.L.length ≤ 600000) (hb : batB b R = true) (hc : s.end_ ≤ b.base)
    (hg : GotPut w W.heap.size q s ⟨b, R, A, c, s.size, ((encB b R).size : Int)⟩ e w3) : e = .returned (.tuple #[]) ∧ ∃ s', SD W p q a s' w3 ∧ s'.L.map PX.told = s.L.map PX.told ++ [(b, R.map (·.1))] ∧ SgSame s s' ∧ Off (SgF s q) w w3 ∧ ∀ k, SgF s' q k → SgF s q k ∨ w.heap.size ≤ k := by
  obtain ⟨rfl, iA, iC, B, d, hI, ho, hn⟩ := hg
  have hok := h.ok.put (A := A) (c := c) (iA := iA) (iC := iC) (B := B) (d := d) hl hb hc
  have hlow : ∀ k, SgF s q k → W.heap.size ≤ k := fun k hk => (sg_low h.sg hk).1
  have hdk : Dk.At W p a w3 := at_off h.dk ho (fun k hk _ hd => hd.apart (sg_kind h.sg hk) (by decide)) hlow
  refine ⟨rfl, _, ⟨hdk, hI, h.hp, hok⟩, ?_, ⟨rfl, rfl, ?_⟩, ho, hn⟩
  · show (s.L ++ [_]).map PX.told = _
    rw [List.map_append]
    rfl
  · show (s.x.add _ _ _).every = _
    unfold Ix.Ix.add
    split <;> rfl
set_option maxHeartbeats 16000000 in
set_option maxRecDepth 100000 in
theorem load_c (W w0 w : World) (p q : Nat) (a : Dk.Ab) (s : SG) (t : ByteArray) (h : SD W p q a s w) (hs0 : s.L = []) (hb0 : Below w0.heap.size w0 w) (hnew : ∀ k, SgF s q k → w0.heap.size ≤ k) (hT : Tab W) (ht : t.size ≤ 4194304) :
    Calls Tryz.prog 30 #[sp q, .string t] w (GotLd W w0 p q a s (followN s.base (scanG t (t.size + 1) 0).1)) := by
  have cs := pscan_c t w (by omega) (hT.below h.bel)
  obtain ⟨hn1, hn2⟩ := scan_few ht
  obtain ⟨hgd, _⟩ := scan_good (s := t) (t.size + 1) 0
  generalize hN : (scanG t (t.size + 1) 0).1 = N at *
  generalize (scanG t (t.size + 1) 0).2 = z at *
  have HT := Lib.hid hT
  have HG := Lib.hid hgd
  have H0B : Hid (W.heap.size ≤ w.heap.size) := Lib.hid h.bel.size
  have H0 : Hid (LdS W w0 p q a s [] w) := Lib.hid ⟨s, h, by rw [hs0]; rfl, ⟨rfl, rfl, rfl⟩, hb0, hnew⟩
  clear h hb0 hnew hT hgd hN hs0
  unfold sp
  go_enter Tryz.func30, Tryz.ntmps30
  go_wp2_with fail
  (with_reducible refine cs.mono ?_)
  rintro e w1 ⟨M, A, c, hM, rfl, hbt, hb1⟩
  have hml : M.length = N.length := by rw [← hM, List.length_map]
  have H1 := Lib.hid (H0.out.later hb1)
  have HBT := Lib.hid hbt
  have HM := Lib.hid hM
  have HL := Lib.hid hml
  have hm5 : M.length ≤ 600000 := by omega
  clear cs hb1 hbt hM hml H0
  go_wp2_with fail
  go_loopw [17] (fun i wr => ∃ k : Nat, i = .int .i64 k ∧ k ≤ M.length ∧ followN s.base N = N.take k ++ followN (endN s.base (N.take k)) (N.drop k) ∧ LdS W w0 p q a s (N.take k) wr ∧ BtsR wr w.heap.size (.slice A M.length c) M) (fun i _ => M.length - (intOf i).toNat)
  case atStart => exact ⟨0, rfl, Nat.zero_le _, rfl, H1.out, HBT.out⟩
  case round =>
    obtain ⟨k, rfl, hk, hf, hS, hB⟩ := hrel
    clear H1 HBT
    by_cases hkl : k < M.length
    · obtain ⟨x, hx⟩ : ∃ x, M[k]? = some x := ⟨_, List.getElem?_eq_getElem hkl⟩
      have hxm := List.mem_of_getElem? hx
      have hgood : ∀ y ∈ M, batB y.1 y.2.1 = true := fun y hy => by
        have h1 : y.told ∈ N := by rw [← HM.out]; exact List.mem_map_of_mem hy
        exact (batB_congr y.1 (toRX_map _)).symm.trans (HG.out _ h1)
      have hbs := row_bsin hB.row (fun y hy => (hB.recs y hy).rsin (bat_recs (hgood y hy)).2)
      obtain ⟨b, off, rfl, hbl, hca⟩ := hbs (by omega)
      obtain ⟨⟨z0, z1, z2, z3, z4, z5⟩, hrs⟩ := hca k x hx
      have hxg := hgood x hxm
      have HXG := Lib.hid hxg
      have HQ := Lib.hid (show N[k]? = some x.told by rw [← HM.out, List.getElem?_map, hx]; rfl)
      have HF := Lib.hid hf
      have HB := Lib.hid hB
      have hRR := hB.recs x hxm
      have hR50 := (bat_recs hxg).1
      obtain ⟨s', hsd, hst, hss, hsb, hsn⟩ := hS
      have HSD := Lib.hid hsd
      have HST := Lib.hid (And.intro hst hss)
      have HSB := Lib.hid (And.intro hsb hsn)
      have hl5 : s'.L.length ≤ 600000 := by have h1 := congrArg List.length hst; rw [List.length_map, List.length_take] at h1; omega
      have hki : (k : Int) < (M.length : Int) := by omega
      have hk0 : (0 : Int) ≤ (k : Int) := by omega
      obtain ⟨⟨base, span, prod, epoch, seq⟩, R, RA, rc⟩ := x
      dsimp only at *
      have hA1 : Below wr.heap.size wr (wr.alloc (.cells #[.int .i64 base, .int .i64 span, .int .i64 prod, .int .i64 epoch, .int .i64 seq, .slice RA R.length rc] 44)) := (Below.refl _ _).alloc (Nat.le_refl _) _
      have HX1 := Lib.hid (Box.new wr 44 #[.int .i64 base, .int .i64 span, .int .i64 prod, .int .i64 epoch, .int .i64 seq, .slice RA R.length rc])
      have HA1 := Lib.hid hA1
      have HRR := Lib.hid (And.intro hRR hrs)
      have cend := fun w' (hb : Below wr.heap.size wr w') => end_c s' W.heap.size q w' (hsd.sg.later hb) (hsd.ok.px hl5) (by omega)
      unfold sp at cend
      have hs : (wr.alloc (.cells #[.int .i64 base, .int .i64 span, .int .i64 prod, .int .i64 epoch, .int .i64 seq, .slice RA R.length rc] 44)).cell? ⟨wr.heap.size, 0, none⟩ = some (.int .i64 base) ∧ wr.heap.size < (wr.alloc (.cells #[.int .i64 base, .int .i64 span, .int .i64 prod, .int .i64 epoch, .int .i64 seq, .slice RA R.length rc] 44)).heap.size ∧ Below wr.heap.size wr (wr.alloc (.cells #[.int .i64 base, .int .i64 span, .int .i64 prod, .int .i64 epoch, .int .i64 seq, .slice RA R.length rc] 44)) := ⟨(HX1.out.cell 0).trans rfl, HX1.out.lt, hA1⟩
      have hstep := fun (v v' : World) (h : v.cell? ⟨wr.heap.size, 0, none⟩ = some (.int .i64 base) ∧ wr.heap.size < v.heap.size ∧ Below wr.heap.size wr v) (hb : Below v.heap.size v v') => (⟨(hb.cell (p := ⟨wr.heap.size, 0, none⟩) h.2.1).trans h.1, Nat.lt_of_lt_of_le h.2.1 hb.size, h.2.2.trans (hb.mono h.2.2.size)⟩ : v'.cell? ⟨wr.heap.size, 0, none⟩ = some (.int .i64 base) ∧ wr.heap.size < v'.heap.size ∧ Below wr.heap.size wr v')
      clear hB hbs hca hx hxm hgood hxg hf hRR hrs hsd hst hss hsb hsn hA1
      generalize hk6 : k * 6 = k6 at *
      go_upto_region 4 with fail
      by_cases hc : base < s'.end_
      · go_region_held3 (fun v => v.cell? ⟨wr.heap.size, 0, none⟩ = some (.int .i64 base) ∧ wr.heap.size < v.heap.size ∧ Below wr.heap.size wr v) (first | exact hstep _ _ hs ((Below.refl _ _).drew) | exact hstep _ _ (by assumption) (by assumption))
          (first | ((with_reducible refine (cend _ (by first | exact hs.2.2.trans ((Below.refl _ _).drew.mono hs.2.2.size))).mono ?_); rintro e w2 ⟨rfl, hb2⟩))
        all_goals
          have HW2 := Lib.hid (hs.2.2.trans (((Below.refl _ _).drew.trans hb2).mono hs.2.2.size))
          have HC := Lib.hid hc
          clear hs hstep cend hb2 z0 z1 z2 z3 z4 z5
          go_wp2_with fail
          go_end0
          have he := end_told HST.out.2 HST.out.1
          have hfs := follow_stop HQ.out HF.out (show base < _ by rw [← he]; exact HC.out)
          rw [hfs]
          exact ⟨rfl, s', HSD.out.later HW2.out, HST.out.1, HST.out.2, HSB.out.1.trans (HW2.out.mono HSB.out.1.size), HSB.out.2⟩
      · have hle : s'.end_ ≤ base := by omega
        have HC := Lib.hid hle
        go_region_held3 (fun v => v.cell? ⟨wr.heap.size, 0, none⟩ = some (.int .i64 base) ∧ wr.heap.size < v.heap.size ∧ Below wr.heap.size wr v) (first | exact hstep _ _ hs ((Below.refl _ _).drew) | exact hstep _ _ (by assumption) (by assumption))
          (first | ((with_reducible refine (cend _ (by first | exact hs.2.2.trans ((Below.refl _ _).drew.mono hs.2.2.size))).mono ?_); rintro e w2 ⟨rfl, hb2⟩))
        all_goals
          have hw2 := hs.2.2.trans (((Below.refl _ _).drew.trans hb2).mono hs.2.2.size)
          have HW2 := Lib.hid hw2
          have hx2 : Box w2 wr.heap.size 44 #[.int .i64 base, .int .i64 span, .int .i64 prod, .int .i64 epoch, .int .i64 seq, .slice RA R.length rc] := HX1.out.later ((Below.refl _ _).drew.trans hb2)
          have ce := pencode_c ⟨base, span, prod, epoch, seq⟩ RA rc R w2 (HRR.out.2.below hw2) (by omega) (HT.out.below (HSD.out.later hw2).bel)
          unfold bnC encV batE at ce
          rw [if_pos HXG.out] at ce
          dsimp only at ce
          have hx2l := hx2.lt
          have q0 := (hx2.cell 0).trans (show _ = some (Value.int .i64 base) from rfl)
          have q1 := (hx2.cell 1).trans (show _ = some (Value.int .i64 span) from rfl)
          have q2 := (hx2.cell 2).trans (show _ = some (Value.int .i64 prod) from rfl)
          have q3 := (hx2.cell 3).trans (show _ = some (Value.int .i64 epoch) from rfl)
          have q4 := (hx2.cell 4).trans (show _ = some (Value.int .i64 seq) from rfl)
          have q5 := (hx2.cell 5).trans (show _ = some (Value.slice RA R.length rc) from rfl)
          have HX2 := Lib.hid hx2
          clear hs hstep cend hb2 z0 z1 z2 z3 z4 z5 hw2 hx2
          go_wp2_with fail
          (with_reducible refine ce.mono ?_)
          rintro e w3 ⟨rfl, hb3⟩
          have hw3 := HW2.out.trans (hb3.mono HW2.out.size)
          have hx3 := HX2.out.later hb3
          have hsd3 := HSD.out.later hw3
          have cp := sput_c s' W.heap.size q ⟨base, span, prod, epoch, seq⟩ R RA rc ((encB ⟨base, span, prod, epoch, seq⟩ R).size : Int) w3 hsd3.sg hsd3.bel.size (hsd3.ok.px hl5) hl5 (by have := hsd3.ok.ix.len; omega) ((HRR.out.1.later hw3).base (H0B.out)) (HRR.out.2.below hw3) (by omega)
          have cp' := cp
          unfold bnC sp at cp'
          dsimp only at cp'
          have q0 := (hx3.cell 0).trans (show _ = some (Value.int .i64 base) from rfl)
          have q1 := (hx3.cell 1).trans (show _ = some (Value.int .i64 span) from rfl)
          have q2 := (hx3.cell 2).trans (show _ = some (Value.int .i64 prod) from rfl)
          have q3 := (hx3.cell 3).trans (show _ = some (Value.int .i64 epoch) from rfl)
          have q4 := (hx3.cell 4).trans (show _ = some (Value.int .i64 seq) from rfl)
          have q5 := (hx3.cell 5).trans (show _ = some (Value.slice RA R.length rc) from rfl)
          have hx3l := hx3.lt
          have HS3 := Lib.hid (And.intro hsd3 hw3)
          clear ce hb3 hsd3 cp hw3 hx3
          generalize hEE : encB ⟨base, span, prod, epoch, seq⟩ R = EE at *
          go_wp2_with fail
          (with_reducible refine cp'.mono ?_)
          rintro e w4 hgp
          rw [← hEE] at hgp
          obtain ⟨rfl, s4, k1, k2, k3, k4, k5⟩ := put_in HS3.out.1 hl5 HXG.out HC.out hgp
          have he := end_told HST.out.2 HST.out.1
          have HFT := Lib.hid (follow_take HQ.out HF.out (show ¬ base < _ by rw [← he]; have := HC.out; omega))
          have ht1 : N.take (k + 1) = N.take k ++ [((⟨base, span, prod, epoch, seq⟩ : BN), R.map (·.1))] := by rw [List.take_add_one, HQ.out]; rfl
          have HLS : Hid (LdS W w0 p q a s (N.take (k + 1)) w4) := Lib.hid ⟨s4, k1, by rw [k2, HST.out.1, ht1], ⟨k3.1.trans HST.out.2.1, k3.2.1.trans HST.out.2.2.1, k3.2.2.trans HST.out.2.2.2⟩, (HSB.out.1.trans (HS3.out.2.mono HSB.out.1.size)).trans (k4.below (by have := HSB.out.1.size; have := HS3.out.2.size; omega) HSB.out.2), fun j hj => by
            rcases k5 j hj with hj | hj
            · exact HSB.out.2 j hj
            · have := HSB.out.1.size; have := HS3.out.2.size; omega⟩
          have HB4 := Lib.hid (btsR_off (HB.out.later HS3.out.2) k4 (fun j hj hr => (sg_kind HS3.out.1.sg hj).apart hr (by decide)))
          clear cp' hgp k1 k2 k3 k4 k5 he ht1 q0 q1 q2 q3 q4 q5 hx3l hEE
          go_wp2_with fail
          go_roundw
          case rel => exact ⟨k + 1, by go_num, hkl, HFT.out, HLS.out, HB4.out⟩
          case measure => simp [intOf]; omega
    · have hki : ¬ (k : Int) < (M.length : Int) := by omega
      have hkN : N.take k = N := List.take_of_length_le (by have := HL.out; omega)
      have hdr : N.drop k = [] := List.drop_of_length_le (by have := HL.out; omega)
      have hf2 : followN s.base N = N := by rw [hf, hdr, hkN]; show N ++ [] = N; rw [List.append_nil]
      have HF := Lib.hid (show LdS W w0 p q a s (followN s.base N) _ by rw [hf2, ← hkN]; exact hS)
      clear hf hS hB hkN hdr hf2
      go_wp2_with fail
      go_end0
      exact ⟨rfl, HF.out⟩
end Go.Proofs.YtjnphajkoopkgaaGreatDoor
/- segment: Open: by contracts. No condition but that the file is not too long. -/
namespace Go.Proofs.YtjnphajkoopkgaaGreatDoor
open Go.RowKit
set_option linter.unusedVariables false
/-- The bytes of a file. -/
def fileT (a : Dk.Ab) (name : ByteArray) : ByteArray := ⟨(Dk.readV a name.data.toList).toArray⟩
/-- The batches that are taken up. -/
def opN (a : Dk.Ab) (name : ByteArray) (base : Int) : List BR := followN base (scanG (fileT a name) ((fileT a name).size + 1) 0).1
def opA (a : Dk.Ab) (name : ByteArray) (base : Int) : Dk.Ab := if lenN (opN a name base) < (fileT a name).size then Dk.cutA a name.data.toList (lenN (opN a name base) : Int) else a
def OpOk (name : ByteArray) (base every : Int) : Prop := (1 ≤ every ∧ every ≤ 1000000) ∧ (0 ≤ base ∧ base ≤ 1099511627776) ∧ (1 ≤ name.size ∧ name.size ≤ 40)
def GotOp (W : World) (p : Nat) (a : Dk.Ab) (name : ByteArray) (base every : Int) (w : World) (e : Ending) (w' : World) : Prop :=
  ∃ q s, e = .returned (.tuple #[sp q, .int .i64 0]) ∧ SD W p q (opA a name base) s w' ∧ s.name = name ∧ s.base = base ∧ s.x.every = every ∧ s.L.map PX.told = opN a name base ∧ (∀ k, SgF s q k → w.heap.size ≤ k) ∧ Off (AtS W w) w w'
theorem new_sg {W w w1 w2 : World} {p : Nat} {a : Dk.Ab} {name : ByteArray} {base every : Int} (h : Dk.At W p a w) (hb1 : Below w.heap.size w w1) (hb2 : Below w1.heap.size w1 w2) (hix : Ix.IxIs w1 w.heap.size w.heap.size ⟨every, [], 0, 0, 0⟩ none 0) (hok : OpOk name base every) :
    SD W p w2.heap.size a ⟨p, name, base, w.heap.size, ⟨every, [], 0, 0, 0⟩, none, 0, [], none, 0⟩ (w2.alloc (.cells #[.pointer (some ⟨p, 0, none⟩), .string name, .int .i64 base, .pointer (some ⟨w.heap.size, 0, none⟩), .slice none 0 0] 78)) := by
  have hs := h.2.size
  have hs1 := hb1.size
  have hs2 := hb2.size
  have hA : Below w2.heap.size w2 (w2.alloc (.cells #[.pointer (some ⟨p, 0, none⟩), .string name, .int .i64 base, .pointer (some ⟨w.heap.size, 0, none⟩), .slice none 0 0] 78)) := (Below.refl _ _).alloc (Nat.le_refl _) _
  have hx := (hix.later hb2).later hA
  refine ⟨((h.later hb1).later hb2).later hA, ⟨Box.new w2 _ _, ⟨hx.box, own_base hx.row hs, Nat.le_trans hs hx.lo, hx.oks, hx.okl⟩, World.ownsRow_nil _ _ _ _, fun x hx => (by cases hx), by show W.heap.size ≤ w2.heap.size; omega⟩, rfl, ⟨?_, hok.2.1, fun x hx => (by cases hx), fun j x hj => (by cases hj), fun j x hj => (by cases hj), IxOk.new every⟩⟩
  show Dk.nameB name = true
  unfold Dk.nameB
  rw [decide_eq_true hok.2.2.1, decide_eq_true hok.2.2.2]
  rfl
theorem cut_ok {a : Dk.Ab} {name : ByteArray} {k : Nat} (hup : Dk.upA a = true) (hlt : k < (fileT a name).size) : Dk.cutE a name.data.toList (k : Int) = 0 := by
  unfold fileT Dk.readV at hlt
  unfold Dk.cutE
  rw [hup] at hlt ⊢
  cases hf : Dk.findL a.L name.data.toList with
  | none => rw [hf] at hlt; exact absurd hlt (Nat.not_lt_zero _)
  | some x =>
    rw [hf] at hlt
    have hl : k < x.2.1.length := by simpa [ByteArray.size] using hlt
    simp only
    rw [if_neg (by omega)]
set_option maxHeartbeats 16000000 in
set_option maxRecDepth 100000 in
theorem open_c (W w : World) (p : Nat) (a : Dk.Ab) (name : ByteArray) (base every : Int) (h : Dk.At W p a w) (hT : Tab W) (hok : OpOk name base every) (hup : Dk.upA a = true) (hsz : (fileT a name).size ≤ 4194304) :
    Calls Tryz.prog 9 #[Dk.dp p, .string name, .int .i64 base, .int .i64 every] w (GotOp W p a name base every w) := by
  have hok' := hok
  obtain ⟨he, ⟨hb1, hb2⟩, hn1, hn2⟩ := hok'
  have cn := Ix.new_c every w
  have crd := fun v (hv : Dk.At W p a v) => Dk.read_do p a (AtS W v) v name (by unfold maxLen; omega) (at_kind hv)
  have ccl := fun v => clone_c name v (by omega)
  have H := Lib.hid h
  have HOK := Lib.hid hok
  have hsee : Dk.seeE a name.data.toList = 0 ∨ Dk.seeE a name.data.toList = 6 := by unfold Dk.seeE; rw [if_pos hup]; split <;> simp
  have hrd : (⟨(Dk.readV a name.data.toList).toArray⟩ : ByteArray) = fileT a name := rfl
  rw [hrd] at crd
  have HOA : Hid (opA a name base = if lenN (opN a name base) < (fileT a name).size then Dk.cutA a name.data.toList (lenN (opN a name base) : Int) else a) := Lib.hid rfl
  have HON : Hid (opN a name base = followN base (scanG (fileT a name) ((fileT a name).size + 1) 0).1) := Lib.hid rfl
  have HCT := Lib.hid (fun (k : Nat) (hlt : k < (fileT a name).size) => cut_ok hup hlt)
  have cl := fun v q s (hv : SD W p q a s v) hs0 (hb : Below w.heap.size w v) hnew => load_c W w v p q a s (fileT a name) hv hs0 hb hnew hT hsz
  have CL := Lib.hid cl
  have HSZ := Lib.hid hsz
  clear cl hrd h hok hT hup hsz
  unfold Dk.dp at *
  generalize fileT a name = t at *
  generalize Dk.seeE a name.data.toList = se at *
  go_enter Tryz.func9, Tryz.ntmps9
  go_wp2_with fail
  (with_reducible refine cn.mono ?_)
  rintro e w1 ⟨_, hnw⟩
  obtain ⟨rfl, hix, hbw1⟩ := hnw he
  have HW1 := Lib.hid (And.intro hix hbw1)
  have cr1 := crd w1 (H.out.later hbw1)
  clear cn hix hbw1 crd
  have hb1' : ¬ base < 0 := by omega
  have hb2' : ¬ (1099511627776 : Int) < base := by omega
  have hn1' : ¬ ((name.size : Nat) : Int) < 1 := by omega
  have hn2' : ¬ (40 : Int) < ((name.size : Nat) : Int) := by omega
  go_wp2_with fail
  (with_reducible refine cr1.mono ?_)
  rintro e w2 ⟨rfl, hw⟩
  have hw' := hw.symm
  subst hw'
  clear cr1 hw
  rcases hsee with rfl | rfl
  all_goals
    go_wp2_with fail
    (with_reducible refine (ccl _).mono ?_)
    rintro e w3 ⟨rfl, hb3⟩
    have hsd := new_sg H.out HW1.out.2 hb3 HW1.out.1 HOK.out
    have hA4 : Below w3.heap.size w3 (w3.alloc (.cells #[.pointer (some ⟨p, 0, none⟩), .string name, .int .i64 base, .pointer (some ⟨w.heap.size, 0, none⟩), .slice none 0 0] 78)) := (Below.refl _ _).alloc (Nat.le_refl _) _
    have hbw4 := (HW1.out.2.trans (hb3.mono HW1.out.2.size)).trans (hA4.mono (Nat.le_trans HW1.out.2.size hb3.size))
    have cl := CL.out _ _ _ hsd rfl hbw4 (fun k hk => by
      have h1 := HW1.out.2.size
      have h2 := hb3.size
      rcases hk with hk | hk | hk | hk
      · rw [hk]; omega
      · rw [hk]; exact Nat.le_refl _
      · obtain ⟨b, hb, _⟩ := hk; cases hb
      · obtain ⟨b, hb, _⟩ := hk; cases hb)
    unfold sp at cl
    clear hsd hA4 hbw4 hb3 ccl
    go_wp2_with fail
    (with_reducible refine cl.mono ?_)
    rintro e w5 ⟨rfl, s, hsd, hst, hss, hbw, hnew⟩
    rw [← HON.out] at hst
    have hln : s.L.length ≤ 600000 := by
      have h1 := congrArg List.length hst
      rw [List.length_map] at h1
      obtain ⟨M, hM⟩ := followN_sub base (scanG t (t.size + 1) 0).1
      have h2 := (scan_few HSZ.out).1
      rw [hM, ← HON.out, List.length_append] at h2
      omega
    have hsz := hsd.ok.size
    rw [← lenN_told, hst] at hsz
    have csz := fun v (hv : Below w5.heap.size w5 v) => size_c s W.heap.size w3.heap.size v (hsd.sg.later hv) (hsd.ok.px hln) (by omega)
    rw [hsz] at csz
    unfold sp at csz
    have HS := Lib.hid hsd
    have HST := Lib.hid (And.intro hst hss)
    have HB5 := Lib.hid (And.intro hbw hnew)
    have cz1 := csz w5 (Below.refl _ _)
    have CSZ := Lib.hid csz
    clear cl hsd hst hss hbw hnew hln hsz csz
    generalize lenN (opN a name base) = ln at *
    go_wp2_with fail
    (with_reducible refine cz1.mono ?_)
    rintro e w6 ⟨rfl, hb6⟩
    have HB6 := Lib.hid hb6
    have cz2 := CSZ.out w6 hb6
    clear cz1 hb6
    by_cases hlt : ln < t.size
    · have hlti : (ln : Int) < (t.size : Int) := by omega
      have hct := HCT.out ln hlt
      have HNL := Lib.hid hlt
      clear hlt
      go_wp2_with fail
      (with_reducible refine cz2.mono ?_)
      rintro e w7 ⟨rfl, hb7⟩
      have HS7 := Lib.hid (HS.out.later (HB6.out.trans (hb7.mono HB6.out.size)))
      have hb57 := HB6.out.trans (hb7.mono HB6.out.size)
      have HB7 := Lib.hid hb57
      have cc := (Dk.cut_do p a (AtS W w7) w7 name (ln : Int) (by unfold maxLen; omega) (at_kind HS7.out.dk)).mono (fun _ _ hd => at_out HS7.out.dk hd)
      rw [hct] at cc
      unfold Dk.dp at cc
      clear cz2 hb7 hb57 hct
      go_wp2_with fail
      (with_reducible refine cc.mono ?_)
      rintro e w8 hdk
      obtain ⟨rfl, hsd8, hof8⟩ := HS7.out.disk hdk
      have hb07 := HB5.out.1.trans (HB7.out.mono HB5.out.1.size)
      have HF := Lib.hid (And.intro hsd8 (show Off (AtS W w) w w8 from (Off.of_below (AtS W w) hb07).trans hof8 (fun k hk h => at_old hb07 hk h)))
      clear hdk hsd8 hof8 cc hb07
      go_wp2_with fail
      go_ret2
      refine ⟨w3.heap.size, s, rfl, ?_, HST.out.2.1, HST.out.2.2.1, HST.out.2.2.2, HST.out.1, HB5.out.2, HF.out.2⟩
      rw [HOA.out, if_pos HNL.out]
      exact HF.out.1
    · have hlti : ¬ (ln : Int) < (t.size : Int) := by omega
      have HNL := Lib.hid hlt
      clear hlt cz2
      go_wp2_with fail
      go_ret2
      refine ⟨w3.heap.size, s, rfl, ?_, HST.out.2.1, HST.out.2.2.1, HST.out.2.2.2, HST.out.1, HB5.out.2, Off.of_below _ (HB5.out.1.trans (HB6.out.mono HB5.out.1.size))⟩
      rw [HOA.out, if_neg HNL.out]
      exact HS.out.later HB6.out
/-- On a disk that is down. -/
theorem open_down (W w : World) (p : Nat) (a : Dk.Ab) (name : ByteArray) (base every : Int) (h : Dk.At W p a w) (hok : OpOk name base every) (hup : Dk.upA a = false) :
    Calls Tryz.prog 9 #[Dk.dp p, .string name, .int .i64 base, .int .i64 every] w (Good w (.tuple #[.pointer none, .int .i64 7])) := by
  obtain ⟨he, ⟨hb1, hb2⟩, hn1, hn2⟩ := hok
  have cn := Ix.new_c every w
  have crd := fun v (hv : Dk.At W p a v) => Dk.read_do p a (AtS W v) v name (by unfold maxLen; omega) (at_kind hv)
  have hsee : Dk.seeE a name.data.toList = 7 := by unfold Dk.seeE; rw [hup]; rfl
  rw [hsee] at crd
  have H := Lib.hid h
  have hb1' : ¬ base < 0 := by omega
  have hb2' : ¬ (1099511627776 : Int) < base := by omega
  have hn1' : ¬ ((name.size : Nat) : Int) < 1 := by omega
  have hn2' : ¬ (40 : Int) < ((name.size : Nat) : Int) := by omega
  clear h hup hsee
  unfold Dk.dp at *
  generalize (⟨(Dk.readV a name.data.toList).toArray⟩ : ByteArray) = t at *
  go_enter Tryz.func9, Tryz.ntmps9
  go_wp2_with fail
  (with_reducible refine cn.mono ?_)
  rintro e w1 ⟨_, hnw⟩
  obtain ⟨rfl, hix, hbw1⟩ := hnw he
  have HW1 := Lib.hid hbw1
  have cr1 := crd w1 (H.out.later hbw1)
  clear cn hix hbw1 crd
  go_wp2_with fail
  (with_reducible refine cr1.mono ?_)
  rintro e w2 ⟨rfl, hw⟩
  have hw' := hw.symm
  subst hw'
  clear cr1 hw
  go_wp2_with fail
  go_ret2
  exact ⟨rfl, HW1.out⟩
/-- Of no disk. -/
theorem open_nil (name : ByteArray) (base every : Int) (w : World) :
    Calls Tryz.prog 9 #[.pointer none, .string name, .int .i64 base, .int .i64 every] w (Good w (.tuple #[.pointer none, .int .i64 1])) := by
  have cn := Ix.new_c every w
  by_cases he : 1 ≤ every ∧ every ≤ 1000000
  · go_enter Tryz.func9, Tryz.ntmps9
    go_wp2_with fail
    (with_reducible refine cn.mono ?_)
    rintro e w1 ⟨_, hnw⟩
    obtain ⟨rfl, _, hbw1⟩ := hnw he
    have HW1 := Lib.hid hbw1
    clear cn hbw1
    go_wp2_with fail
    go_ret2
    exact ⟨rfl, HW1.out⟩
  · go_enter Tryz.func9, Tryz.ntmps9
    go_wp2_with fail
    (with_reducible refine cn.mono ?_)
    rintro e w1 ⟨hnw, _⟩
    obtain ⟨rfl, hw⟩ := hnw he
    have hw' := hw.symm
    subst hw'
    clear cn hw
    go_wp2_with fail
    go_ret2
    exact ⟨rfl, Below.refl _ _⟩
end Go.Proofs.YtjnphajkoopkgaaGreatDoor
