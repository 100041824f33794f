/- A disk as the document has it: names, bytes, how many are safe. Plain words on lists. No condition. -/
import Derived.Test.YtpdimmkacjilgaaDkFuse
import Derived.Test.YtpdimmkacjilgaaDkFull
namespace Go.Proofs.Ytpdimmkacjilgaa
open Go.RowKit Go.Maps Go.ChangeMaps Go.WideMaps
set_option linter.unusedVariables false
/-- A file: its name, its bytes, how many are safe. -/
abbrev AF := List UInt8 × List UInt8 × Nat
structure Ab where
  room : Int
  fused : Bool
  left : Int
  L : List AF
def absF (f : DF) : AF := (f.name, f.bytes, f.safe)
def absL (F : List DF) : List AF := F.map absF
def totL (L : List AF) : Nat := (L.map fun x => x.2.1.length).sum
def findL (L : List AF) (n : List UInt8) : Option AF := L.find? fun x => x.1 == n
def setL (L : List AF) (n : List UInt8) (y : AF) : List AF := L.map fun x => if x.1 = n then y else x
def insL (y : AF) : List AF → List AF
  | [] => [y]
  | x :: r => if bytesBefore y.1 x.1 then y :: x :: r else x :: insL y r
def delL (L : List AF) (n : List UInt8) : List AF := L.filter fun x => !(x.1 == n)
theorem abs_total (F : List DF) : totL (absL F) = total F := by unfold totL absL total; rw [List.map_map]; rfl
theorem abs_find (F : List DF) (n : List UInt8) : findL (absL F) n = (fileOf F n).map absF := by
  unfold findL absL fileOf
  rw [List.find?_map]
  rfl
theorem abs_ins (f : DF) : ∀ F : List DF, absL (insF f F) = insL (absF f) (absL F)
  | [] => rfl
  | y :: r => by
    have ih := abs_ins f r
    show absL (if bytesBefore f.name y.name then f :: y :: r else y :: insF f r) = if bytesBefore f.name y.name then absF f :: absF y :: absL r else absF y :: insL (absF f) (absL r)
    split
    · rfl
    · rw [← ih]; rfl
theorem abs_del (F : List DF) (n : List UInt8) : absL (minus F n) = delL (absL F) n := by
  unfold absL minus delL
  rw [List.filter_map]
  rfl
theorem name_blk {F : List DF} (hs : F.Pairwise fun f g => bytesBefore f.name g.name = true) {f g : DF} (hf : f ∈ F) (hg : g ∈ F) (e : g.name = f.name) : g = f := by
  have h1 := fileOf_mem hs hf
  have h2 := fileOf_mem hs hg
  rw [e, h1] at h2
  injection h2 with h2
  exact h2.symm
theorem abs_repl {F : List DF} (hs : F.Pairwise fun f g => bytesBefore f.name g.name = true) (hb : F.Pairwise fun f g => f.blk ≠ g.blk) {f f' : DF} (hf : f ∈ F) : absL (repl f f' F) = setL (absL F) f.name (absF f') := by
  unfold absL repl setL
  rw [List.map_map, List.map_map]
  refine List.map_congr_left fun g hg => ?_
  show absF (if g.blk = f.blk then f' else g) = if g.name = f.name then absF f' else absF g
  by_cases e : g.blk = f.blk
  · have := same_blk hb hg hf e
    subst this
    simp
  · have hn : g.name ≠ f.name := fun q => e (by rw [name_blk hs hf hg q])
    rw [if_neg e, if_neg hn]
theorem abs_repl_new {F : List DF} {f f' : DF} (hb : ∀ g ∈ F, g.blk ≠ f.blk) (hn : f.name = f'.name) : absL (repl f f' (insF f F)) = insL (absF f') (absL F) := by
  induction F with
  | nil => unfold repl insF absL insL; simp
  | cons y r ih =>
    have ih := ih fun g hg => hb g (by simp [hg])
    have hy := hb y (by simp)
    have hr : repl f f' r = r := repl_none fun g hg => hb g (by simp [hg])
    unfold insF
    show _ = if bytesBefore f'.name y.name then absF f' :: absF y :: absL r else absF y :: insL (absF f') (absL r)
    rw [← hn]
    split
    · unfold repl at hr ⊢
      rw [List.map_cons, List.map_cons, if_pos rfl, if_neg hy, hr]
      rfl
    · rw [← ih]
      unfold repl
      rw [List.map_cons, if_neg hy]
      rfl
/-- The disk that stands at a place: as the document has it; its blocks are of S. -/
def Is (w : World) (p : Nat) (a : Ab) (S : Nat → Prop) : Prop :=
  ∃ d, Rep w p d ∧ d.room = a.room ∧ d.fused = a.fused ∧ d.left = a.left ∧ absL d.F = a.L ∧ d.used = (total d.F : Int) ∧ ∀ k, Foot p d k → S k
/-- What a call leaves. -/
def Does (W : World) (p : Nat) (S : Nat → Prop) (v : Value) (a : Ab) (e : Ending) (w' : World) : Prop :=
  e = .returned v ∧ Is w' p a (fun k => S k ∨ W.heap.size ≤ k) ∧ Off S W w'
theorem foot_lt {w : World} {p : Nat} {d : DS} (h : Rep w p d) {k : Nat} (hk : Foot p d k) : k < w.heap.size := by
  rcases hk with rfl | hk | ⟨f, hf, hk⟩
  · exact h.box.lt
  · rcases h.map with ⟨h1, _⟩ | ⟨m, h1, h2⟩
    · rw [h1] at hk; cases hk
    · have : m = k := by rw [h1] at hk; injection hk
      subst this
      exact h2.lt
  · rcases hk with rfl | hk
    · exact (h.files f hf).box.lt
    · rcases (h.files f hf).row.2 with ⟨h1, _⟩ | ⟨g, cap, cur, h1, _, h3, _⟩
      · rw [h1] at hk; cases hk
      · rw [h1] at hk
        have : g = k := by simpa [Value.ownBlock] using hk
        subst this
        exact lt_of_there h3
theorem Is.off {w w' : World} {p : Nat} {a : Ab} {S T : Nat → Prop} (h : Is w p a S) (ho : Off T w w') (hST : ∀ k, k < w.heap.size → S k → ¬ T k) : Is w' p a S := by
  obtain ⟨d, hR, h1, h2, h3, h4, h5, h6⟩ := h
  exact ⟨d, hR.off ho fun k hk => hST k (foot_lt hR hk) (h6 k hk), h1, h2, h3, h4, h5, h6⟩
theorem Is.mono {w : World} {p : Nat} {a : Ab} {S T : Nat → Prop} (h : Is w p a S) (hST : ∀ k, S k → T k) : Is w p a T := by
  obtain ⟨d, hR, h1, h2, h3, h4, h5, h6⟩ := h
  exact ⟨d, hR, h1, h2, h3, h4, h5, fun k hk => hST k (h6 k hk)⟩
theorem Is.later {w w' : World} {p : Nat} {a : Ab} {S : Nat → Prop} (h : Is w p a S) (hb : Below w.heap.size w w') : Is w' p a S := h.off (Off.of_below (fun _ => False) hb) (fun _ _ _ x => x)
theorem does_tells {W : World} {p : Nat} {a : Ab} {S : Nat → Prop} (h : Is W p a S) {v : Value} {e : Ending} {w' : World} (ht : Tells W v e w') : Does W p S v a e w' := by
  obtain ⟨rfl, rfl⟩ := ht
  exact ⟨rfl, h.mono fun k hk => .inl hk, Off.refl _ _⟩
theorem does_good {W : World} {p : Nat} {a : Ab} {S : Nat → Prop} (h : Is W p a S) {v : Value} {e : Ending} {w' : World} (ht : Good W v e w') : Does W p S v a e w' := by
  obtain ⟨rfl, hb⟩ := ht
  exact ⟨rfl, (h.later hb).mono fun k hk => .inl hk, Off.of_below _ hb⟩
def upA (a : Ab) : Bool := !a.fused || decide (0 < a.left)
def chgA (a : Ab) : Ab := { a with left := if a.fused = true then a.left - 1 else a.left }
theorem setL_len (L : List AF) (n : List UInt8) (y : AF) : (setL L n y).length = L.length := by unfold setL; simp
theorem insL_len (y : AF) : ∀ L : List AF, (insL y L).length = L.length + 1
  | [] => rfl
  | x :: r => by
    unfold insL
    split
    · rfl
    · simp [insL_len y r]
/-- A way from what the low contract gives to what the document says. -/
theorem does_gives {W : World} {p : Nat} {d : DS} {S : Nat → Prop} {v : Value} {Q : DS → Prop} {e : Ending} {w' : World} {a' : Ab} (hS : ∀ k, Foot p d k → S k) (hg : Gives W p d v Q e w')
    (hq : ∀ d', Rep w' p d' → Q d' → d'.room = a'.room ∧ d'.fused = a'.fused ∧ d'.left = a'.left ∧ absL d'.F = a'.L ∧ d'.used = (total d'.F : Int)) : Does W p S v a' e w' := by
  obtain ⟨rfl, d', hR, hQ, ho, hf⟩ := hg
  obtain ⟨h1, h2, h3, h4, h5⟩ := hq d' hR hQ
  refine ⟨rfl, ⟨d', hR, h1, h2, h3, h4, h5, fun k hk => ?_⟩, ho.mono fun k _ hk => hS k hk⟩
  rcases hf k hk with hk | hk
  · exact .inl (hS k hk)
  · exact .inr hk
/-- Append, as the document has it. -/
def appE (a : Ab) (n s : ByteArray) : Int :=
  if upA a then if nameB n then if a.room - (totL a.L : Int) < (s.size : Int) then 5 else 0 else 1 else 7
def appA (a : Ab) (n s : ByteArray) : Ab :=
  if appE a n s = 0 then
    { chgA a with L := match findL a.L n.data.toList with
                       | some x => setL a.L n.data.toList (n.data.toList, x.2.1 ++ s.data.toList, x.2.2)
                       | none => insL (n.data.toList, s.data.toList, 0) a.L }
  else a
theorem up_abs {d : DS} {a : Ab} (h2 : d.fused = a.fused) (h3 : d.left = a.left) : upA a = upB d := by unfold upA upB; rw [h2, h3]
theorem chg_left {d : DS} {a : Ab} (h2 : d.fused = a.fused) (h3 : d.left = a.left) : (chg d).left = (chgA a).left := by unfold chg chgA; simp only; rw [h2, h3]
theorem app_do (p : Nat) (a : Ab) (S : Nat → Prop) (W : World) (n s : ByteArray) (hn : n.size ≤ 140737488351232) (hs : s.size ≤ 281474976710656) (h : Is W p a S) (hlen : a.L.length ≤ 1000000) :
    Calls Try.prog 15 #[dp p, .string n, .string s] W (Does W p S (.int .i64 (appE a n s)) (appA a n s)) := by
  have hI := h
  obtain ⟨d, hR, h1, h2, h3, h4, h5, h6⟩ := h
  have hl : d.F.length ≤ 1000000 := by rw [← h4] at hlen; unfold absL at hlen; simpa using hlen
  have hu := up_abs h2 h3
  have htot : (totL a.L : Int) = d.used := by rw [← h4, abs_total, h5]
  cases hub : upB d with
  | false =>
    have e : appE a n s = 7 := by unfold appE; rw [hu, hub]; rfl
    rw [show appA a n s = a by unfold appA; rw [e]; rfl, e]
    exact (app_down p d n s W hR hub).mono fun _ _ ht => does_tells hI ht
  | true =>
    cases hnb : nameB n with
    | false =>
      have e : appE a n s = 1 := by unfold appE; rw [hu, hub, hnb]; rfl
      rw [show appA a n s = a by unfold appA; rw [e]; rfl, e]
      exact (app_name p d n s W hn hR hub hnb).mono fun _ _ ht => does_tells hI ht
    | true =>
      by_cases hsz : d.room - d.used < (s.size : Int)
      · have e : appE a n s = 5 := by unfold appE; rw [hu, hub, hnb, htot, ← h1]; simp [hsz]
        rw [show appA a n s = a by unfold appA; rw [e]; rfl, e]
        exact (app_full p d W n s hs hR hub hnb hsz).mono fun _ _ ht => does_good hI ht
      · have e : appE a n s = 0 := by unfold appE; rw [hu, hub, hnb, htot, ← h1]; simp [hsz]
        have ea : appA a n s = { chgA a with L := match findL a.L n.data.toList with
                       | some x => setL a.L n.data.toList (n.data.toList, x.2.1 ++ s.data.toList, x.2.2)
                       | none => insL (n.data.toList, s.data.toList, 0) a.L } := by unfold appA; rw [if_pos e]
        rw [ea, e]
        have hsz' : (s.size : Int) ≤ d.room - d.used := by omega
        have hcl := chg_left h2 h3
        have hff := abs_find d.F n.data.toList
        rw [h4] at hff
        cases hf : fileOf d.F n.data.toList with
        | none =>
          rw [hf] at hff
          simp only [hff, Option.map_none]
          refine (app_new p d W n s hl hR hub hnb hsz' hf).mono fun _ _ hg => does_gives h6 hg ?_
          rintro d' hR' ⟨q1, q2, q3, q4, f, f', q5, q6, q7, q8, q9, q10⟩
          have hab : absL d'.F = insL (n.data.toList, s.data.toList, 0) a.L := by
            rw [q5, abs_repl_new q6 (by rw [q7, q8]), h4, show absF f' = (n.data.toList, s.data.toList, 0) by unfold absF; rw [q8, q9, q10]]
          refine ⟨q1.trans h1, q2.trans h2, q3.trans hcl, hab, ?_⟩
          have ht : total d'.F = total d.F + s.size := by
            have e1 : ∀ (y : AF) (L : List AF), totL (insL y L) = totL L + y.2.1.length := by
              intro y L
              induction L with
              | nil => simp [totL, insL]
              | cons x r ih =>
                unfold insL
                split
                · simp only [totL, List.map_cons, List.sum_cons]; omega
                · simp only [totL, List.map_cons, List.sum_cons] at ih ⊢; omega
            rw [← abs_total, hab, e1, ← h4, abs_total]
            rfl
          rw [q4, h5, ht]
          omega
        | some f =>
          rw [hf] at hff
          simp only [hff, Option.map_some]
          obtain ⟨hf1, hf2⟩ := file_in hf
          refine (app_has p d W n s f hR hub hnb hsz' hf).mono fun _ _ hg => does_gives h6 hg ?_
          rintro d' hR' ⟨q1, q2, q3, q4, f', q5, q6, q7, q8⟩
          refine ⟨q1.trans h1, q2.trans h2, q3.trans hcl, ?_, ?_⟩
          · rw [q5, abs_repl hR.sorted hR.blks hf1, h4, hf2]
            unfold absF
            rw [q6, q7, q8, hf2]
          · have ht := total_repl (f' := f') hR.blks hf1
            have e1 : f'.bytes.length = f.bytes.length + s.size := by rw [q7, List.length_append]; rfl
            rw [q5, q4, h5]
            omega
/-- Sync. -/
def seeE (a : Ab) (n : List UInt8) : Int := if upA a then if (findL a.L n).isSome then 0 else 6 else 7
def syncA (a : Ab) (n : List UInt8) : Ab :=
  match upA a, findL a.L n with
  | true, some x => { chgA a with L := setL a.L n (n, x.2.1, x.2.1.length) }
  | _, _ => a
theorem sync_do (p : Nat) (a : Ab) (S : Nat → Prop) (W : World) (n : ByteArray) (hn : n.size ≤ maxLen) (h : Is W p a S) :
    Calls Try.prog 16 #[dp p, .string n] W (Does W p S (.int .i64 (seeE a n.data.toList)) (syncA a n.data.toList)) := by
  have hI := h
  obtain ⟨d, hR, h1, h2, h3, h4, h5, h6⟩ := h
  have hu := up_abs h2 h3
  have hff := abs_find d.F n.data.toList
  rw [h4] at hff
  unfold seeE syncA
  rw [hu]
  cases hub : upB d with
  | false => exact (sync_down p d n W hR hub).mono fun _ _ ht => does_tells hI ht
  | true =>
    cases hf : fileOf d.F n.data.toList with
    | none =>
      rw [hf] at hff
      simp only [hff, Option.map_none]
      exact (sync_none p d n hn W hR hub hf).mono fun _ _ ht => does_tells hI ht
    | some f =>
      rw [hf] at hff
      simp only [hff, Option.map_some]
      obtain ⟨hf1, hf2⟩ := file_in hf
      refine (sync_some p d n hn W hR hub f hf).mono fun _ _ hg => does_gives h6 hg ?_
      rintro d' hR' rfl
      refine ⟨h1, h2, chg_left (d := syncD d f) h2 h3, ?_, ?_⟩
      · show absL (repl f (syncF f) d.F) = _
        rw [abs_repl hR.sorted hR.blks hf1, h4, hf2]
        unfold absF syncF
        rw [hf2]
      · have ht := total_repl (f' := syncF f) hR.blks hf1
        have e1 : (syncF f).bytes.length = f.bytes.length := rfl
        show d.used = (total (repl f (syncF f) d.F) : Int)
        omega
/-- Read. -/
def readV (a : Ab) (n : List UInt8) : List UInt8 := match upA a, findL a.L n with | true, some x => x.2.1 | _, _ => []
theorem read_do (p : Nat) (a : Ab) (S : Nat → Prop) (W : World) (n : ByteArray) (hn : n.size ≤ maxLen) (h : Is W p a S) :
    Calls Try.prog 13 #[dp p, .string n] W (Tells W (.tuple #[.string ⟨(readV a n.data.toList).toArray⟩, .int .i64 (seeE a n.data.toList)])) := by
  obtain ⟨d, hR, h1, h2, h3, h4, h5, h6⟩ := h
  have hu := up_abs h2 h3
  have hff := abs_find d.F n.data.toList
  rw [h4] at hff
  unfold seeE readV
  rw [hu]
  cases hub : upB d with
  | false => exact read_down p d n W hR hub
  | true =>
    cases hf : fileOf d.F n.data.toList with
    | none =>
      rw [hf] at hff
      simp only [hff, Option.map_none]
      exact read_none p d n hn W hR hub hf
    | some f =>
      rw [hf] at hff
      simp only [hff, Option.map_some]
      exact read_some p d n hn W hR hub f hf
/-- Drop. -/
def dropA (a : Ab) (n : List UInt8) : Ab := if upA a = true ∧ (findL a.L n).isSome = true then { chgA a with L := delL a.L n } else a
theorem total_lost {f : DF} : ∀ {F : List DF}, F.Pairwise (fun f g => bytesBefore f.name g.name = true) → f ∈ F → total (minus F f.name) + f.bytes.length = total F
  | [], _, h => by cases h
  | x :: F, hp, h => by
    obtain ⟨h1, h2⟩ := List.pairwise_cons.1 hp
    unfold minus
    rw [List.filter_cons]
    rcases List.mem_cons.1 h with rfl | h'
    · have hm : (F.filter fun g => !(g.name == f.name)) = F := by
        rw [List.filter_eq_self]
        intro g hg
        have := h1 g hg
        simp only [Bool.not_eq_true', beq_eq_false_iff_ne]
        intro e
        rw [e, bytes_irrefl] at this
        cases this
      rw [hm]
      simp [total]
      omega
    · have ih := total_lost h2 h'
      unfold minus at ih
      have hne : (x.name == f.name) = false := by
        rw [beq_eq_false_iff_ne]
        intro e
        have := h1 f h'
        rw [e, bytes_irrefl] at this
        cases this
      rw [hne]
      simp only [Bool.not_false, if_true, total, List.map_cons, List.sum_cons] at ih ⊢
      omega
theorem drop_do (p : Nat) (a : Ab) (S : Nat → Prop) (W : World) (n : ByteArray) (hn : n.size ≤ maxLen) (h : Is W p a S) :
    Calls Try.prog 19 #[dp p, .string n] W (Does W p S (.int .i64 (seeE a n.data.toList)) (dropA a n.data.toList)) := by
  have hI := h
  obtain ⟨d, hR, h1, h2, h3, h4, h5, h6⟩ := h
  have hu := up_abs h2 h3
  have hff := abs_find d.F n.data.toList
  rw [h4] at hff
  unfold seeE dropA
  rw [hu]
  cases hub : upB d with
  | false => exact (drop_down p d n W hR hub).mono fun _ _ ht => does_tells hI ht
  | true =>
    cases hf : fileOf d.F n.data.toList with
    | none =>
      rw [hf] at hff
      simp only [hff, Option.map_none]
      exact (drop_none p d n hn W hR hub hf).mono fun _ _ ht => does_tells hI ht
    | some f =>
      rw [hf] at hff
      simp only [hff, Option.map_some]
      obtain ⟨hf1, hf2⟩ := file_in hf
      refine (drop_some p d n hn W hR hub f hf).mono fun _ _ hg => does_gives h6 hg ?_
      rintro d' hR' rfl
      refine ⟨h1, h2, chg_left (d := loseD d f) h2 h3, ?_, ?_⟩
      · show absL (minus d.F f.name) = delL a.L n.data.toList
        rw [abs_del, h4, hf2]
      · have ht := total_lost hR.sorted hf1
        show d.used - (f.bytes.length : Int) = (total (minus d.F f.name) : Int)
        omega
/-- Used, Room, Up, Fuse. -/
theorem used_do (p : Nat) (a : Ab) (S : Nat → Prop) (W : World) (h : Is W p a S) : Calls Try.prog 22 #[dp p] W (Tells W (.int .i64 (totL a.L))) := by
  obtain ⟨d, hR, h1, h2, h3, h4, h5, h6⟩ := h
  have := used_c p d W hR
  rw [h5, ← abs_total, h4] at this
  exact this
theorem room_do (p : Nat) (a : Ab) (S : Nat → Prop) (W : World) (h : Is W p a S) : Calls Try.prog 23 #[dp p] W (Tells W (.int .i64 a.room)) := by
  obtain ⟨d, hR, h1, h2, h3, h4, h5, h6⟩ := h
  have := room_c p d W hR
  rw [h1] at this
  exact this
theorem up_do (p : Nat) (a : Ab) (S : Nat → Prop) (W : World) (h : Is W p a S) : Calls Try.prog 24 #[dp p] W (Tells W (.bool (upA a))) := by
  obtain ⟨d, hR, h1, h2, h3, h4, h5, h6⟩ := h
  rw [up_abs h2 h3]
  exact up_c p d W hR
def fuseA (a : Ab) (n : Int) : Ab := { a with fused := decide (0 ≤ n), left := max n 0 }
theorem fuse_do (p : Nat) (a : Ab) (S : Nat → Prop) (W : World) (h : Is W p a S) (n : Int) (h0 : -1 ≤ n) (hx : n ≤ 9223372036854775807) :
    Calls Try.prog 20 #[dp p, .int .i64 n] W (Does W p S (.int .i64 0) (fuseA a n)) := by
  obtain ⟨d, hR, h1, h2, h3, h4, h5, h6⟩ := h
  refine (fuse_c p d W hR n h0 hx).mono ?_
  rintro e w' ⟨rfl, R, o⟩
  exact ⟨rfl, ⟨_, R, h1, rfl, rfl, h4, h5, fun k hk => .inl (h6 k hk)⟩, o.mono fun k _ hk => h6 k (.inl hk)⟩
theorem new_do (n : Int) (h : 1 ≤ n ∧ n ≤ 4194304) (W : World) :
    Calls Try.prog 9 #[.int .i64 n] W (fun e w' => e = .returned (.tuple #[dp W.heap.size, .int .i64 0]) ∧ Is w' W.heap.size ⟨n, false, 0, []⟩ (fun k => W.heap.size ≤ k) ∧ Below W.heap.size W w') := by
  refine (new_good n h W).mono ?_
  rintro e w' ⟨rfl, rfl⟩
  refine ⟨rfl, ⟨newD n, new_rep n h W, rfl, rfl, rfl, rfl, rfl, fun k hk => ?_⟩, (Below.refl _ _).alloc (Nat.le_refl _) _⟩
  rcases hk with rfl | hk | ⟨f, hf, _⟩
  · exact Nat.le_refl _
  · cases hk
  · cases hf
end Go.Proofs.Ytpdimmkacjilgaa
