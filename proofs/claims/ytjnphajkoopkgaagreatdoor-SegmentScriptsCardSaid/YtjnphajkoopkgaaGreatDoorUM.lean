/- Merged texts. What each proves is told at its head. -/
import Derived.Test.YtjnphajkoopkgaaGreatDoorUK
import Derived.Test.YtjnphajkoopkgaaGreatDoorIter
/- The names of a disk's files, rising. No condition. -/
namespace Go.Proofs.YtjnphajkoopkgaaGreatDoor.Dk
open Go.RowKit Go.Maps Go.ChangeMaps Go.WideMaps Go.Sort Go.Shelf
set_option linter.unusedVariables false
/-- What names hands back. -/
def NamesOf (W : World) (F : List DF) (e : Ending) (w' : World) : Prop := ∃ (v : Value) (ss : List (List UInt8)), e = .returned v ∧ ss.Perm (F.map (·.name)) ∧ w'.ownsRow W.heap.size 9 1 v ss.length ((ss.mergeSort (fun x y => decide (x ≤ y))).map encStr) ∧ (v = .slice none 0 0 ↔ ss = []) ∧ Below W.heap.size W w'
theorem strKeys_mapD (F : List DF) : strKeys (mapD F) = F.map (·.name) := by
  unfold mapD
  show (F.map entry).map (fun p => strOf p.1) = _
  rw [List.map_map]
  rfl
set_option maxHeartbeats 2000000 in
set_option maxRecDepth 100000 in
theorem names_some (p : Nat) (d : DS) (W : World) (h : Rep W p d) (hlen : d.F.length ≤ 1000000) (m : Nat) (hm : d.map = some m) :
    Calls Tryz.prog 53 #[dp p] W (NamesOf W d.F) := by
  obtain ⟨y0, y1, y2, y3, y4⟩ := h.at
  obtain ⟨m', hm', hown⟩ : ∃ m, d.map = some m ∧ W.ownsMap Tryz.prog 9 fileTok m d.F.length (mapD d.F) := by
    rcases h.map with ⟨h1, _⟩ | hx
    · rw [h1] at hm; cases hm
    · exact hx
  have e : m' = m := by rw [hm'] at hm; injection hm
  subst e
  have hsz : Maps.size (mapD d.F) = d.F.length := by unfold mapD Maps.size; simp
  have hmax : Maps.size (mapD d.F) ≤ maxLen := by rw [hsz]; unfold maxLen; omega
  have hby : Maps.size (mapD d.F) * 16 ≤ 140737488355328 := by rw [hsz]; omega
  rw [hm'] at y2
  unfold dp
  have R0 := Lib.hid h
  clear h hm hm'
  refine (callsIn_wide (n := 6)).1 ?_
  have hfK : Fence.wide.fn 92 := trivial
  have hfS : Fence.wide.fn 91 := trivial
  refine callsIn_of_wp Tryz.func53 rfl trivial ?_ rfl
  simp only [Tryz.ntmps53, List.size_toArray, List.length_cons, List.length_nil, Nat.reduceAdd, Nat.reduceSub, Array.replicate_succ, Array.replicate_zero, List.push_toArray, List.append_toArray, List.nil_append, List.cons_append]
  gi_wp2_with (first
    | (gi_at_call 92; refine (Tryz.maps_Keys_92 _ _).mono ?_; rintro e w' ⟨rfl, rfl⟩)
    | (gi_at_call 91; refine (Tryz.slices_Sorted_keys_91_92 m' d.F.length (mapD d.F) fileTok W hown hmax hby).mono ?_; rintro e w' ⟨v, ss, rfl, hS, hrow, hnil, hb⟩))
  go_ret
  rw [strKeys_mapD] at hS
  exact ⟨v, ss, rfl, hS, own_base hrow (by simp), hnil, ((Below.refl _ W).alloc (Nat.le_refl _) _).trans (hb.mono (by simp))⟩
end Go.Proofs.YtjnphajkoopkgaaGreatDoor.Dk
/- The names of a disk's files, sorted: they stand as the files do. No condition. -/
namespace Go.Proofs.YtjnphajkoopkgaaGreatDoor.Dk
open Go.RowKit Go.Maps Go.ChangeMaps Go.WideMaps Go.Sort Go.Shelf
set_option linter.unusedVariables false
theorem before_lt : ∀ a b : List UInt8, bytesBefore a b = true ↔ a < b
  | [], [] => by
    constructor
    · intro h; cases h
    · intro h; exact absurd h (List.not_lt_nil _)
  | [], b :: s => ⟨fun _ => List.nil_lt_cons _ _, fun _ => rfl⟩
  | a :: r, [] => by
    constructor
    · intro h; cases h
    · intro h; exact absurd h (List.not_lt_nil _)
  | a :: r, b :: s => by
    rw [bytes_cons, List.cons_lt_cons_iff, before_lt r s, ← UInt8.lt_iff_toNat_lt]
theorem bytes_asymm {a b : List UInt8} (h : bytesBefore a b = true) : bytesBefore b a = false := by
  cases k : bytesBefore b a with
  | false => rfl
  | true => have := bytes_trans h k; rw [bytes_irrefl] at this; cases this
theorem le_before (a b : List UInt8) : decide (a ≤ b) = !bytesBefore b a := by
  rw [Bool.eq_iff_iff]
  simp only [decide_eq_true_eq, Bool.not_eq_true']
  rw [← List.not_lt, ← before_lt]
  simp
/-- Names that rise are as they are sorted. -/
theorem sort_names {F : List DF} (hs : F.Pairwise fun f g => bytesBefore f.name g.name = true) {ss : List (List UInt8)} (hp : ss.Perm (F.map (·.name))) : ss.mergeSort (fun x y => decide (x ≤ y)) = F.map (·.name) := by
  have hF : (F.map (·.name)).Pairwise fun a b => decide (a ≤ b) = true := by
    rw [List.pairwise_map]
    refine hs.imp fun {a b} h => ?_
    rw [le_before, bytes_asymm h]
    rfl
  refine List.Perm.eq_of_pairwise (le := fun a b => decide (a ≤ b) = true) (fun a b _ _ h k => ?_) (List.pairwise_mergeSort (fun a b c h k => ?_) (fun a b => ?_) ss) hF ((List.mergeSort_perm ss _).trans hp)
  · rw [le_before] at h k
    rcases bytes_total a b with q | q | q
    · rw [q] at k; cases k
    · exact q
    · rw [q] at h; cases h
  · rw [decide_eq_true_eq] at *
    exact List.le_trans h k
  · rw [Bool.or_eq_true, decide_eq_true_eq, decide_eq_true_eq]
    exact List.le_total a b
/-- What names hands back: the files' names in a row of its own. -/
def NamesAre (W : World) (F : List DF) (e : Ending) (w' : World) : Prop := ∃ v : Value, e = .returned v ∧ w'.ownsRow W.heap.size 9 1 v F.length ((F.map (·.name)).map encStr) ∧ (v = .slice none 0 0 ↔ F = []) ∧ Below W.heap.size W w'
set_option maxHeartbeats 2000000 in
set_option maxRecDepth 100000 in
theorem names_none (p : Nat) (d : DS) (W : World) (h : Rep W p d) (hm : d.map = none) :
    Calls Tryz.prog 53 #[dp p] W (NamesAre W d.F) := by
  obtain ⟨y0, y1, y2, y3, y4⟩ := h.at
  have hF : d.F = [] := by
    rcases h.map with ⟨_, h2⟩ | ⟨m, h1, _⟩
    · exact h2
    · rw [hm] at h1; cases h1
  rw [hm] at y2
  unfold dp
  clear h
  refine (callsIn_wide (n := 6)).1 ?_
  have hfK : Fence.wide.fn 92 := trivial
  have hfS : Fence.wide.fn 91 := trivial
  refine callsIn_of_wp Tryz.func53 rfl trivial ?_ rfl
  simp only [Tryz.ntmps53, List.size_toArray, List.length_cons, List.length_nil, Nat.reduceAdd, Nat.reduceSub, Array.replicate_succ, Array.replicate_zero, List.push_toArray, List.append_toArray, List.nil_append, List.cons_append]
  gi_wp2_with (first
    | (gi_at_call 92; refine (Tryz.maps_Keys_92 _ _).mono ?_; rintro e w' ⟨rfl, rfl⟩)
    | (gi_at_call 91; refine (Tryz.slices_Sorted_keys_nil_91_92 W).mono ?_; rintro e w' ⟨v, ss, rfl, hS, hrow, hnil, hb⟩))
  go_ret
  subst hS
  rw [hF]
  refine ⟨v, rfl, ?_, ?_, ((Below.refl _ W).alloc (Nat.le_refl _) _).trans (hb.mono (by simp))⟩
  · have := own_base hrow (base' := W.heap.size) (by simp)
    simpa using this
  · rw [hnil]
    simp
/-- The names, whether there is a map or not. -/
theorem names_c (p : Nat) (d : DS) (W : World) (h : Rep W p d) (hlen : d.F.length ≤ 1000000) :
    Calls Tryz.prog 53 #[dp p] W (NamesAre W d.F) := by
  cases hm : d.map with
  | none => exact names_none p d W h hm
  | some m =>
    refine (names_some p d W h hlen m hm).mono ?_
    rintro e w' ⟨v, ss, rfl, hS, hrow, hnil, hb⟩
    rw [sort_names h.sorted hS] at hrow
    have hl : ss.length = d.F.length := by rw [hS.length_eq, List.length_map]
    rw [hl] at hrow
    refine ⟨v, rfl, hrow, ?_, hb⟩
    rw [hnil]
    constructor
    · intro e; subst e; simp at hl; exact List.length_eq_zero_iff.1 hl.symm
    · intro e; rw [e] at hl; exact List.length_eq_zero_iff.1 hl
end Go.Proofs.YtjnphajkoopkgaaGreatDoor.Dk
/- Crash: what it leaves. No condition. -/
namespace Go.Proofs.YtjnphajkoopkgaaGreatDoor.Dk
open Go.RowKit Go.Maps Go.ChangeMaps Go.WideMaps Go.Shelf
set_option linter.unusedVariables false
attribute [local go_sem ↓] Go.wp_at_zero Go.wp_at_succ
theorem addr_at (b off i : Nat) : (⟨b, off, none⟩ : Addr).add i = ⟨b, off + i, none⟩ := by unfold Addr.add; split <;> simp_all
/-- A slice of numbers that lies off S. -/
def KeepIn (w : World) (S : Nat → Prop) (a : Option Addr) (c : Nat) (l : List Int) : Prop :=
  (∀ n ∈ l, -9223372036854775808 ≤ n ∧ n ≤ 9223372036854775807) ∧ (0 < l.length → ∃ b off, a = some ⟨b, off, none⟩ ∧ b < w.heap.size ∧ ¬ S b ∧ ∀ j, j < l.length → w.cell? ⟨b, off + j, none⟩ = some (.int .i64 (l.getD j 0)))
theorem KeepIn.off {w w' : World} {S T : Nat → Prop} {a : Option Addr} {c : Nat} {l : List Int} (h : KeepIn w S a c l) (ho : Off T w w') (hT : ∀ k, k < w.heap.size → T k → S k) : KeepIn w' S a c l := by
  refine ⟨h.1, fun hp => ?_⟩
  obtain ⟨b, off, h1, h2, h3, h4⟩ := h.2 hp
  refine ⟨b, off, h1, Nat.lt_of_lt_of_le h2 ho.size, h3, fun j hj => ?_⟩
  exact (World.cell?_of_block (ho.block b h2 fun hk => h3 (hT b h2 hk))).trans (h4 j hj)
/-- How many bytes of those that wait are kept. -/
def keptOf (keep : List Int) (t wt : Nat) : Nat := if t < keep.length then (min (max (keep.getD t 0) 0) (wt : Int)).toNat else 0
def tearL (keep : List Int) : Nat → List AF → List AF × Nat
  | t, [] => ([], t)
  | t, x :: r => if x.2.1.length = x.2.2 then (x :: (tearL keep t r).1, (tearL keep t r).2)
    else ((x.1, x.2.1.take (x.2.2 + keptOf keep t (x.2.1.length - x.2.2)), x.2.2 + keptOf keep t (x.2.1.length - x.2.2)) :: (tearL keep (t + 1) r).1, (tearL keep (t + 1) r).2)
theorem keptOf_le (keep : List Int) (t wt : Nat) : keptOf keep t wt ≤ wt := by
  unfold keptOf
  split <;> omega
theorem repl_mid {f f' : DF} {H : List DF} : ∀ {G : List DF}, (G ++ f :: H).Pairwise (fun f g => f.blk ≠ g.blk) → repl f f' (G ++ f :: H) = G ++ f' :: H
  | [], hp => by
    obtain ⟨h1, _⟩ := List.pairwise_cons.1 hp
    have := repl_none (f := f) (f' := f') (F := H) (fun g hg e => h1 g hg e.symm)
    unfold repl at this ⊢
    rw [List.nil_append, List.map_cons, if_pos rfl, this]
    rfl
  | x :: G, hp => by
    obtain ⟨h1, h2⟩ := List.pairwise_cons.1 hp
    have ih := repl_mid (f' := f') h2
    have hne : x.blk ≠ f.blk := h1 f (by simp)
    unfold repl at ih ⊢
    rw [List.cons_append, List.map_cons, if_neg hne, ih]
    rfl
/-- The state of the loop: j names are done, t files torn. -/
def CrAt (W1 : World) (p : Nat) (d0 : DS) (keep : List Int) (j t : Nat) (w : World) : Prop :=
  ∃ d G H, Rep w p d ∧ d.F = G ++ H ∧ G.length = j ∧ absL H = (absL d0.F).drop j ∧ absL G ++ (tearL keep t (absL H)).1 = (tearL keep 0 (absL d0.F)).1 ∧ (tearL keep t (absL H)).2 = (tearL keep 0 (absL d0.F)).2 ∧
    d.room = d0.room ∧ d.used - (total d.F : Int) = d0.used - (total d0.F : Int) ∧ (∀ k, Foot p d k → Foot p d0 k ∨ W1.heap.size ≤ k) ∧ Off (Foot p d0) W1 w ∧ t ≤ j
theorem CrAt.start {W W1 : World} {p : Nat} {d : DS} {keep : List Int} (h : Rep W p d) (hb : Below W.heap.size W W1) : CrAt W1 p d keep 0 0 W1 :=
  ⟨d, [], d.F, h.later hb, rfl, rfl, by simp, by simp [absL], rfl, rfl, rfl, fun k hk => .inl hk, Off.refl _ _, Nat.le_refl _⟩
/-- The next file. -/
theorem CrAt.next {W1 w : World} {p : Nat} {d0 : DS} {keep : List Int} {j t : Nat} (h : CrAt W1 p d0 keep j t w) {x : AF} (hx : (absL d0.F)[j]? = some x) :
    ∃ d f, Rep w p d ∧ f ∈ d.F ∧ fileOf d.F x.1 = some f ∧ absF f = x ∧ (f.bytes.length = f.safe → CrAt W1 p d0 keep (j + 1) t w) ∧
      ∀ k, f.bytes.length ≠ f.safe → k = f.safe + keptOf keep t (f.bytes.length - f.safe) → ∀ w' v', Rep w' p (syncD (shortD d f k v') (shortF f k v')) → Off (Foot p d) w w' → (∀ i, Foot p (syncD (shortD d f k v') (shortF f k v')) i → Foot p d i ∨ w.heap.size ≤ i) → CrAt W1 p d0 keep (j + 1) (t + 1) w' := by
  obtain ⟨d, G, H, hR, hF, hG, hH, h1, h2, h3, h4, h5, h6, h7⟩ := h
  have hd : (absL d0.F).drop j = x :: (absL d0.F).drop (j + 1) := by
    obtain ⟨hj, hx'⟩ := List.getElem?_eq_some_iff.1 hx
    rw [List.drop_eq_getElem_cons hj, hx']
  rw [hd] at hH
  cases H with
  | nil => cases hH
  | cons f H =>
    have hf : absF f = x := by injection hH
    have hH' : absL H = (absL d0.F).drop (j + 1) := by injection hH
    have hm : f ∈ d.F := by rw [hF]; simp
    have hfo := fileOf_mem hR.sorted hm
    have hb := hR.blks
    rw [hF] at hb
    refine ⟨d, f, hR, hm, by rw [← hf]; exact hfo, hf, fun he => ?_, fun k hne hk w' v' hR' ho hft => ?_⟩
    · have e : ∀ t, tearL keep t (absL (f :: H)) = (absF f :: (tearL keep t (absL H)).1, (tearL keep t (absL H)).2) := fun t => by
        show tearL keep t (absF f :: absL H) = _
        rw [tearL, if_pos (show (absF f).2.1.length = (absF f).2.2 from he)]
      rw [e] at h1 h2
      refine ⟨d, G ++ [f], H, hR, by rw [hF]; simp, by simp [hG], hH', ?_, h2, h3, h4, h5, h6, by omega⟩
      rw [← h1]
      unfold absL
      simp
    · have e : tearL keep t (absL (f :: H)) = ((f.name, f.bytes.take k, k) :: (tearL keep (t + 1) (absL H)).1, (tearL keep (t + 1) (absL H)).2) := by
        show tearL keep t (absF f :: absL H) = _
        rw [tearL, if_neg (show ¬ (absF f).2.1.length = (absF f).2.2 from hne)]
        rw [hk]
        rfl
      rw [e] at h1 h2
      have e1 : repl f (shortF f k v') d.F = G ++ shortF f k v' :: H := by rw [hF]; exact repl_mid hb
      have hb2 : (G ++ shortF f k v' :: H).Pairwise (fun f g => f.blk ≠ g.blk) := by
        rw [List.pairwise_append] at hb ⊢
        obtain ⟨b1, b2, b3⟩ := hb
        refine ⟨b1, ?_, fun a ha b hb' => ?_⟩
        · obtain ⟨c1, c2⟩ := List.pairwise_cons.1 b2
          exact List.pairwise_cons.2 ⟨c1, c2⟩
        · rcases List.mem_cons.1 hb' with rfl | hb''
          · exact b3 a ha f (by simp)
          · exact b3 a ha b (by simp [hb''])
      have e2 : (syncD (shortD d f k v') (shortF f k v')).F = G ++ syncF (shortF f k v') :: H := by
        show repl (shortF f k v') (syncF (shortF f k v')) (repl f (shortF f k v') d.F) = _
        rw [e1]
        exact repl_mid hb2
      have hkl : k ≤ f.bytes.length := by
        have := keptOf_le keep t (f.bytes.length - f.safe)
        have := (hR.files f hm).safe
        omega
      have hla : (f.bytes.take k).length = k := by simp; omega
      have e3 : absF (syncF (shortF f k v')) = (f.name, f.bytes.take k, k) := by
        show (f.name, f.bytes.take k, (f.bytes.take k).length) = _
        rw [hla]
      have hof : Off (Foot p d0) W1 w' := h6.trans ho (fun i hi hk => by
        rcases h5 i hk with q | q
        · exact q
        · omega)
      have htj : t + 1 ≤ j + 1 := by omega
      have hgl : (G ++ [syncF (shortF f k v')]).length = j + 1 := by rw [List.length_append, hG]; rfl
      have hsp : (syncD (shortD d f k v') (shortF f k v')).F = (G ++ [syncF (shortF f k v')]) ++ H := by rw [e2]; simp
      have hft' : ∀ i, Foot p (syncD (shortD d f k v') (shortF f k v')) i → Foot p d0 i ∨ W1.heap.size ≤ i := fun i hi => by
        rcases hft i hi with q | q
        · exact h5 i q
        · have := h6.size; exact .inr (by omega)
      generalize hdd : syncD (shortD d f k v') (shortF f k v') = dd at *
      refine ⟨dd, G ++ [syncF (shortF f k v')], H, hR', hsp, hgl, hH', ?_, h2, ?_, ?_, hft', hof, htj⟩
      · rw [← h1]
        unfold absL
        simp [e3]
      · rw [← hdd]; exact h3
      · rw [hsp, List.append_assoc]
        show dd.used - (total (G ++ syncF (shortF f k v') :: H) : Int) = _
        rw [hF] at h4
        have t1 : ∀ (A : List DF) (y : DF) (B : List DF), total (A ++ y :: B) = total A + y.bytes.length + total B := fun A y B => by unfold total; simp; omega
        rw [t1] at h4 ⊢
        have hl3 : (syncF (shortF f k v')).bytes.length = k := hla
        rw [hl3]
        have hus : dd.used = d.used - ((f.bytes.length : Int) - (k : Int)) := by rw [← hdd]; rfl
        omega
theorem CrAt.offs {W1 w : World} {p : Nat} {d0 : DS} {keep : List Int} {j t : Nat} (h : CrAt W1 p d0 keep j t w) : Off (Foot p d0) W1 w ∧ t ≤ j := by
  obtain ⟨d, G, H, hR, hF, hG, hH, h1, h2, h3, h4, h5, h6, h7⟩ := h
  exact ⟨h6, h7⟩
theorem CrAt.drew {W1 w : World} {p : Nat} {d0 : DS} {keep : List Int} {j t : Nat} (h : CrAt W1 p d0 keep j t w) : CrAt W1 p d0 keep j t w.drew := by
  obtain ⟨d, G, H, hR, hF, hG, hH, h1, h2, h3, h4, h5, h6, h7⟩ := h
  exact ⟨d, G, H, hR.later (Below.refl _ _).drew, hF, hG, hH, h1, h2, h3, h4, h5, h6.drew, h7⟩
theorem CrAt.rep {W1 w : World} {p : Nat} {d0 : DS} {keep : List Int} {j t : Nat} (h : CrAt W1 p d0 keep j t w) : ∃ d, Rep w p d := by
  obtain ⟨d, G, H, hR, _⟩ := h
  exact ⟨d, hR⟩
/-- What a crash leaves. -/
def crashD (d : DS) : DS := { d with fused := false, left := 0 }
theorem crash_rep {W : World} {p : Nat} {d : DS} (h : Rep W p d) :
    Rep ((W.setCell ⟨p, 3, none⟩ (.bool false)).setCell ⟨p, 4, none⟩ (.int .i64 0)) p (crashD d) ∧ Off (· = p) W ((W.setCell ⟨p, 3, none⟩ (.bool false)).setCell ⟨p, 4, none⟩ (.int .i64 0)) := by
  have e1 : decide ((0 : Int) ≤ -1) = false := by decide
  have e2 : max (-1 : Int) 0 = 0 := by decide
  have e3 : fuseD d (-1) = crashD d := by unfold fuseD crashD; rw [e1, e2]
  have := fuse_rep h (-1) (by decide)
  rw [e1, e2, e3] at this
  exact this
/-- What Crash leaves. -/
def Crashes (W : World) (p : Nat) (d : DS) (keep : List Int) (e : Ending) (w' : World) : Prop :=
  e = .returned (.int .i64 ((tearL keep 0 (absL d.F)).2 : Int)) ∧ ∃ d', Rep w' p d' ∧ absL d'.F = (tearL keep 0 (absL d.F)).1 ∧ d'.room = d.room ∧ d'.fused = false ∧ d'.left = 0 ∧ d'.used - (total d'.F : Int) = d.used - (total d.F : Int) ∧ Off (Foot p d) W w' ∧ ∀ k, Foot p d' k → Foot p d k ∨ W.heap.size ≤ k
theorem crash_end {W W1 w : World} {p : Nat} {d0 : DS} {keep : List Int} {t : Nat} (hb : Below W.heap.size W W1) (h : CrAt W1 p d0 keep d0.F.length t w) :
    Crashes W p d0 keep (.returned (.int .i64 (t : Int))) ((w.setCell ⟨p, 3, none⟩ (.bool false)).setCell ⟨p, 4, none⟩ (.int .i64 0)) := by
  obtain ⟨d, G, H, hR, hF, hG, hH, h1, h2, h3, h4, h5, h6, h7⟩ := h
  have hH0 : absL H = [] := by rw [hH, List.drop_eq_nil_iff]; unfold absL; simp
  have hn : H = [] := by
    unfold absL at hH0
    exact List.map_eq_nil_iff.1 hH0
  subst hn
  rw [List.append_nil] at hF
  obtain ⟨R, o⟩ := crash_rep hR
  have e1 : (tearL keep t (absL [])).1 = [] := rfl
  have e2 : (tearL keep t (absL [])).2 = t := rfl
  rw [e1, List.append_nil] at h1
  rw [e2] at h2
  refine ⟨by rw [h2], _, R, ?_, h3, rfl, rfl, h4, ((Off.of_below (Foot p d0) hb).trans h6 fun _ _ x => x).trans o fun k hk e => ?_, fun k hk => ?_⟩
  · show absL d.F = _
    rw [hF, h1]
  · exact .inl e
  · rcases h5 k hk with q | q
    · exact .inl q
    · have := hb.size; exact .inr (by omega)
set_option maxHeartbeats 4000000 in
set_option maxRecDepth 100000 in
theorem crash_c (p : Nat) (d : DS) (W : World) (h : Rep W p d) (hlen : d.F.length ≤ 1000000) (a : Option Addr) (c : Nat) (keep : List Int) (hkl : keep.length ≤ 9223372036854775807) (hk : KeepIn W (Foot p d) a c keep) :
    Calls Tryz.prog 23 #[dp p, .slice a keep.length c] W (Crashes W p d keep) := by
  have hnm := names_c p d W h hlen
  unfold dp at *
  go_enter Tryz.func23, Tryz.ntmps23
  go_wp2_with fail
  (with_reducible refine hnm.mono ?_)
  rintro en W1 ⟨v, rfl, hrow, hnil, hb⟩
  have HB := Lib.hid hb
  have ST := Lib.hid (CrAt.start (keep := keep) h hb)
  have HK := Lib.hid hk
  have HR := Lib.hid h
  obtain ⟨nb, ncap, hv⟩ : ∃ nb ncap, v = .slice nb d.F.length ncap := by
    rcases hrow.2 with ⟨hv, h0⟩ | ⟨g, cap, cur, hv, _⟩
    · exact ⟨_, _, by rw [h0]; exact hv⟩
    · exact ⟨_, _, hv⟩
  subst hv
  have HW := Lib.hid hrow
  clear hnm hb hrow hk h hnil
  go_wp2_with fail
  go_loopw [5, 7, 8, 9, 10, 16] (fun t x1 x2 x3 x4 i wr => ∃ j t0 : Nat, i = .int .i64 j ∧ t = .int .i64 t0 ∧ j ≤ d.F.length ∧ CrAt W1 p d keep j t0 wr) (fun _ _ _ _ _ i _ => d.F.length - (intOf i).toNat)
  case atStart => exact ⟨0, 0, rfl, rfl, Nat.zero_le _, ST.out⟩
  case round =>
    obtain ⟨j, t0, rfl, rfl, hj, hC⟩ := hrel
    by_cases hjl : j < d.F.length
    · obtain ⟨f0, hf0⟩ : ∃ f0, d.F[j]? = some f0 := ⟨_, List.getElem?_eq_getElem hjl⟩
      have hx : (absL d.F)[j]? = some (absF f0) := by unfold absL; rw [List.getElem?_map, hf0]; rfl
      obtain ⟨d1, f, hR1, hfm, hfo, hfx, hskip, htear⟩ := hC.next hx
      obtain ⟨hoff, htj⟩ := hC.offs
      have hrow1 := own_off HW.out hoff (fun k hk hkF => by
        have h1 := (HW.out.lt k hk).1
        have h2 := foot_lt HR.out hkF
        omega)
      obtain ⟨g, rfl⟩ : ∃ g, nb = some ⟨g, 0, none⟩ := by
        rcases HW.out.2 with ⟨hv, h0⟩ | ⟨g, cap, cur, hv, _⟩
        · omega
        · injection hv with h1 _ _
          exact ⟨g, h1⟩
      have hnc : wr.cell? ⟨g, j, none⟩ = some (.string ⟨f0.name.toArray⟩) := by
        have := hrow1.cells (g := g) rfl j (.string ⟨f0.name.toArray⟩) (by rw [List.getElem?_map, List.getElem?_map, hf0]; rfl)
        rw [addr_at, Nat.zero_add] at this
        exact this
      have hn40 : (⟨f0.name.toArray⟩ : ByteArray).size ≤ maxLen := by
        have h1 := (HR.out.files f0 (List.mem_of_getElem? hf0)).name
        show f0.name.toArray.size ≤ maxLen
        unfold maxLen
        simp
        omega
      have hl := look_run hR1 ⟨f0.name.toArray⟩ hn40
      have hfo' : fileOf d1.F (⟨f0.name.toArray⟩ : ByteArray).data.toList = some f := hfo
      unfold ptrOf at hl
      rw [hfo'] at hl
      simp only at hl
      obtain ⟨y0, y1, y2, y3, y4⟩ := hR1.at
      have fi := hR1.files f hfm
      have x0 : wr.cell? ⟨f.blk, 0, none⟩ = some f.v := (fi.box.cell 0).trans rfl
      have x1 : wr.cell? ⟨f.blk, 1, none⟩ = some (.int .i64 (f.safe : Int)) := (fi.box.cell 1).trans rfl
      obtain ⟨ao, cap, hv⟩ : ∃ ao cap, f.v = .slice ao f.bytes.length cap := by
        rcases fi.row.2 with ⟨hv, h0⟩ | ⟨g, cap, cur, hv, _⟩
        · exact ⟨_, _, by rw [h0]; exact hv⟩
        · exact ⟨_, _, hv⟩
      rw [hv] at x0
      have hsf := fi.safe
      have hge := total_ge hfm
      have hus := hR1.used
      have hrm := hR1.room
      have hw1 : IntKind.i64.wrap ((f.bytes.length : Int) - (f.safe : Int)) = (f.bytes.length : Int) - (f.safe : Int) := IntWalk.i64_in _ (by omega)
      have hfl : f.bytes.length ≤ 4194304 := by omega
      have HS := Lib.hid hskip
      have HT := Lib.hid htear
      have HO := Lib.hid hoff
      have HD := Lib.hid hR1
      have HM := Lib.hid hfm
      have HU := Lib.hid hus
      clear hC hx hskip htear hoff hrow1 hfo hfo' hfx hR1 fi hge hus hrm hfm hv
      by_cases hwt : f.bytes.length = f.safe
      · have hwt' : (f.bytes.length : Int) - (f.safe : Int) = 0 := by omega
        rw [hwt'] at hw1
        go_wp2_with fail
        go_region_held3 (fun w => w.cell? ⟨f.blk, 0, none⟩ = some (.slice ao f.bytes.length cap) ∧ w.cell? ⟨f.blk, 1, none⟩ = some (.int .i64 (f.safe : Int))) (exact ⟨x0, x1⟩) (fail)
        go_wp2_with fail
        go_roundw
        case rel => exact ⟨j + 1, t0, by go_num, rfl, hjl, (HS.out hwt).drew⟩
        case measure => simp [intOf]; omega
      · have hwt0 : (f.bytes.length : Int) - (f.safe : Int) ≠ 0 := by omega
        have hwt1 : ((f.bytes.length : Int) - (f.safe : Int) == 0) = false := by rw [beq_eq_false_iff_ne]; exact hwt0
        have hwt2 : decide ((f.bytes.length : Int) - (f.safe : Int) = 0) = false := decide_eq_false hwt0
        obtain ⟨kt, hkt⟩ : ∃ kt, kt = keptOf keep t0 (f.bytes.length - f.safe) := ⟨_, rfl⟩
        have hkl2 : kt ≤ f.bytes.length - f.safe := by rw [hkt]; exact keptOf_le _ _ _
        have hdr : Rep wr.drew p d1 := HD.out.later (Below.refl _ _).drew
        have hsh := shorten_c p d1 wr.drew hdr f HM.out (f.safe + kt) (by omega)
        have hw2 : IntKind.i64.wrap ((f.safe : Int) + (kt : Int)) = ((f.safe + kt : Nat) : Int) := by rw [IntWalk.i64_in _ (by omega)]; omega
        have hw3 : IntKind.i64.wrap ((t0 : Int) + 1) = ((t0 + 1 : Nat) : Int) := by rw [IntWalk.i64_in _ (by omega)]; omega
        have hK1 : KeepIn wr.drew (Foot p d) a c keep := ((HK.out.off (Off.of_below (fun _ => False) HB.out) (fun _ _ x => x.elim)).off HO.out (fun _ _ x => x)).off ((Off.refl (fun _ => False) wr).drew) (fun _ _ x => x.elim)
        have HS2 := Lib.hid (And.intro hwt hkt)
        have HDR := Lib.hid hdr
        unfold dp at hsh
        rw [show ((f.safe + kt : Nat) : Int) = (f.safe : Int) + (kt : Int) by omega] at hsh hw2
        by_cases htk : t0 < keep.length
        · obtain ⟨b, off, rfl, hb1, hb2, hb3⟩ := hK1.2 (by omega)
          have hkc : wr.drew.cell? ⟨b, off + t0, none⟩ = some (.int .i64 (keep.getD t0 0)) := hb3 t0 htk
          have hmm : min (max (keep.getD t0 0) 0) ((f.bytes.length : Int) - (f.safe : Int)) = (kt : Int) := by
            rw [hkt]
            unfold keptOf
            rw [if_pos htk]
            omega
          have htk' : (t0 : Int) < (keep.length : Int) := by omega
          generalize hkv : keep.getD t0 0 = kv at hkc hmm
          clear hkv
          clear hb3 hK1 hkt hwt hdr
          go_wp2_with fail
          go_region_held3 (fun w => w.cell? ⟨f.blk, 0, none⟩ = some (.slice ao f.bytes.length cap) ∧ w.cell? ⟨f.blk, 1, none⟩ = some (.int .i64 (f.safe : Int))) (exact ⟨x0, x1⟩) (fail)
          have x1' : wr.drew.cell? ⟨f.blk, 1, none⟩ = some (.int .i64 (f.safe : Int)) := x1
          go_wp2_with fail
          (with_reducible refine hsh.mono ?_)
          rintro en w2 ⟨rfl, d2, R2, ⟨v', rfl⟩, o2, f2⟩
          have hm2 : shortF f (f.safe + kt) v' ∈ (shortD d1 f (f.safe + kt) v').F := List.mem_map.2 ⟨f, HM.out, if_pos rfl⟩
          have fi2 := R2.files _ hm2
          have hla : (shortF f (f.safe + kt) v').bytes.length = f.safe + kt := by show (f.bytes.take (f.safe + kt)).length = _; simp; omega
          have hmi : ((shortF f (f.safe + kt) v').safe : Int) = (f.safe : Int) := by show ((min f.safe (f.safe + kt) : Nat) : Int) = _; omega
          have q1 : w2.cell? ⟨f.blk, 1, none⟩ = some (.int .i64 (f.safe : Int)) := by rw [← hmi]; exact (fi2.box.cell 1).trans rfl
          have q2 : w2.frozen? ⟨f.blk, 1, none⟩ = false := fi2.box.frozen 1
          obtain ⟨R3, o3, f3⟩ := sync_rep R2 hm2
          rw [hla, show ((f.safe + kt : Nat) : Int) = (f.safe : Int) + (kt : Int) by omega] at R3 o3
          have E := Lib.hid (HT.out (f.safe + kt) HS2.out.1 (by rw [HS2.out.2]) _ v' R3 (((Off.refl (Foot p d1) wr).drew.trans o2 fun _ _ x => x).trans o3 fun k _ hk => .inr (.inr ⟨f, HM.out, .inl hk⟩)) fun i hi => f2 i (f3 i hi))
          clear R3 o3 f3 R2 o2 f2 fi2 hm2
          go_wp2_with fail
          go_roundw
          case rel => exact ⟨j + 1, t0 + 1, by go_num, by go_num, hjl, E.out⟩
          case measure => simp [intOf]; omega
        · have hk0 : kt = 0 := by rw [HS2.out.2]; unfold keptOf; rw [if_neg htk]
          have htk' : ¬ (t0 : Int) < (keep.length : Int) := by omega
          clear hK1 hkt hwt hdr
          go_wp2_with fail
          go_region_held3 (fun w => w.cell? ⟨f.blk, 0, none⟩ = some (.slice ao f.bytes.length cap) ∧ w.cell? ⟨f.blk, 1, none⟩ = some (.int .i64 (f.safe : Int))) (exact ⟨x0, x1⟩) (fail)
          have x1' : wr.drew.cell? ⟨f.blk, 1, none⟩ = some (.int .i64 (f.safe : Int)) := x1
          have hw4 : IntKind.i64.wrap ((f.safe : Int) + 0) = (f.safe : Int) + 0 := IntWalk.i64_in _ (by omega)
          subst hk0
          rw [show (f.safe : Int) + ((0 : Nat) : Int) = (f.safe : Int) by omega] at hsh
          go_wp2_with fail
          (with_reducible refine hsh.mono ?_)
          rintro en w2 ⟨rfl, d2, R2, ⟨v', rfl⟩, o2, f2⟩
          have hm2 : shortF f (f.safe + 0) v' ∈ (shortD d1 f (f.safe + 0) v').F := List.mem_map.2 ⟨f, HM.out, if_pos rfl⟩
          have fi2 := R2.files _ hm2
          have hla : (shortF f (f.safe + 0) v').bytes.length = f.safe + 0 := by show (f.bytes.take (f.safe + 0)).length = _; simp; omega
          have hmi : ((shortF f (f.safe + 0) v').safe : Int) = (f.safe : Int) := by show ((min f.safe (f.safe + 0) : Nat) : Int) = _; omega
          have q1 : w2.cell? ⟨f.blk, 1, none⟩ = some (.int .i64 (f.safe : Int)) := by rw [← hmi]; exact (fi2.box.cell 1).trans rfl
          have q2 : w2.frozen? ⟨f.blk, 1, none⟩ = false := fi2.box.frozen 1
          obtain ⟨R3, o3, f3⟩ := sync_rep R2 hm2
          rw [hla, show ((f.safe + 0 : Nat) : Int) = (f.safe : Int) by omega] at R3 o3
          have E := Lib.hid (HT.out (f.safe + 0) HS2.out.1 (by rw [HS2.out.2]) _ v' R3 (((Off.refl (Foot p d1) wr).drew.trans o2 fun _ _ x => x).trans o3 fun k _ hk => .inr (.inr ⟨f, HM.out, .inl hk⟩)) fun i hi => f2 i (f3 i hi))
          clear R3 o3 f3 R2 o2 f2 fi2 hm2
          go_wp2_with fail
          go_roundw
          case rel => exact ⟨j + 1, t0 + 1, by go_num, by go_num, hjl, E.out⟩
          case measure => simp [intOf]; omega
    · obtain ⟨df, hRf⟩ := hC.rep
      have z3 := hRf.box.frozen 3
      have z4 := hRf.box.frozen 4
      obtain ⟨y0, y1, y2, y3, y4⟩ := hRf.at
      have hje : j = d.F.length := by omega
      subst hje
      have HE := Lib.hid (crash_end HB.out hC)
      clear hC hRf
      go_wp2
      go_ret
      exact HE.out
end Go.Proofs.YtjnphajkoopkgaaGreatDoor.Dk
/- A disk that a law made: what each call leaves of it, as the document has it. No condition. -/
namespace Go.Proofs.YtjnphajkoopkgaaGreatDoor.Dk
open Go.RowKit Go.Maps Go.ChangeMaps Go.WideMaps Go.Shelf
set_option linter.unusedVariables false
def crashA (a : Ab) (keep : List Int) : Ab := ⟨a.room, false, 0, (tearL keep 0 a.L).1⟩
theorem crash_do (p : Nat) (a : Ab) (S : Nat → Prop) (W : World) (h : Is W p a S) (hlen : a.L.length ≤ 1000000) (ad : Option Addr) (c : Nat) (keep : List Int) (hkl : keep.length ≤ 9223372036854775807) (hk : KeepIn W S ad c keep) :
    Calls Tryz.prog 23 #[dp p, .slice ad keep.length c] W (Does W p S (.int .i64 ((tearL keep 0 a.L).2 : Int)) (crashA a keep)) := by
  obtain ⟨d, hR, h1, h2, h3, h4, h5, h6⟩ := h
  have hl : d.F.length ≤ 1000000 := by rw [← h4] at hlen; unfold absL at hlen; simpa using hlen
  refine (crash_c p d W hR hl ad c keep hkl ⟨hk.1, fun hp => ?_⟩).mono ?_
  · obtain ⟨b, off, q1, q2, q3, q4⟩ := hk.2 hp
    exact ⟨b, off, q1, q2, fun hf => q3 (h6 b hf), q4⟩
  · rintro e w' ⟨rfl, d', R, q1, q2, q3, q4, q5, q6, q7⟩
    refine ⟨by rw [h4], ⟨d', R, q2.trans h1, q3, q4, by rw [q1, h4]; rfl, by omega, fun k hk => ?_⟩, q6.mono fun k _ hk => h6 k hk⟩
    rcases q7 k hk with hk | hk
    · exact .inl (h6 k hk)
    · exact .inr hk
/-- A disk that was made behind W, in w. -/
def At (W : World) (p : Nat) (a : Ab) (w : World) : Prop := Is w p a (fun k => W.heap.size ≤ k) ∧ Below W.heap.size W w
theorem Is.tight {w : World} {p : Nat} {a : Ab} {S : Nat → Prop} (h : Is w p a S) : Is w p a (fun k => S k ∧ k < w.heap.size) := by
  obtain ⟨d, hR, h1, h2, h3, h4, h5, h6⟩ := h
  exact ⟨d, hR, h1, h2, h3, h4, h5, fun k hk => ⟨h6 k hk, foot_lt hR hk⟩⟩
section
variable {W w w' : World} {p : Nat} {a a' : Ab} {S : Nat → Prop} {v : Value} {e : Ending}
theorem At.later (h : At W p a w) (hb : Below w.heap.size w w') : At W p a w' := ⟨h.1.later hb, h.2.trans (hb.mono h.2.size)⟩
theorem at_does (h : At W p a w) (hS : ∀ k, S k → W.heap.size ≤ k) (hd : Does w p S v a' e w') : e = .returned v ∧ At W p a' w' := by
  obtain ⟨rfl, hI, ho⟩ := hd
  have hs := h.2.size
  refine ⟨rfl, hI.mono fun k hk => ?_, h.2.trans (ho.below hs hS)⟩
  rcases hk with hk | hk
  · exact hS k hk
  · omega
theorem at_new (n : Int) (h : 1 ≤ n ∧ n ≤ 4194304) (hb : Below W.heap.size W w) :
    Calls Tryz.prog 7 #[.int .i64 n] w (fun e w' => e = .returned (.tuple #[dp w.heap.size, .int .i64 0]) ∧ At W w.heap.size ⟨n, false, 0, []⟩ w') := by
  refine (new_do n h w).mono ?_
  rintro e w' ⟨rfl, h1, h2⟩
  have := hb.size
  exact ⟨rfl, h1.mono fun k hk => by omega, hb.trans (h2.mono hb.size)⟩
theorem at_crash (ad : Option Addr) (c : Nat) (keep : List Int) (h : At W p a w) (hI : Is w p a S) (hS : ∀ k, S k → W.heap.size ≤ k) (hlen : a.L.length ≤ 1000000) (hkl : keep.length ≤ 9223372036854775807) (hk : KeepIn w S ad c keep) :
    Calls Tryz.prog 23 #[dp p, .slice ad keep.length c] w (fun e w' => e = .returned (.int .i64 ((tearL keep 0 a.L).2 : Int)) ∧ At W p (crashA a keep) w') :=
  (crash_do p a S w hI hlen ad c keep hkl hk).mono fun _ _ hd => at_does h hS hd
end
end Go.Proofs.YtjnphajkoopkgaaGreatDoor.Dk
/- Rename: what it leaves. No condition. -/
namespace Go.Proofs.YtjnphajkoopkgaaGreatDoor.Dk
open Go.RowKit Go.Maps Go.ChangeMaps Go.WideMaps Go.MapKept
set_option linter.unusedVariables false
attribute [local go_sem ↓] Go.wp_at_zero Go.wp_at_succ
theorem cut_none (p : Nat) (d : DS) (n : ByteArray) (k : Int) (hn : n.size ≤ maxLen) (W : World) (h : Rep W p d) (hd : upB d = true) (hf : fileOf d.F n.data.toList = none) : Calls Tryz.prog 31 #[dp p, .string n, .int .i64 k] W (Tells W (.int .i64 6)) := by
  have hu := find_none p d n hn W h hd hf
  clear h hd hf
  unfold dp at *
  go_enter Tryz.func31, Tryz.ntmps31
  go_wp2_with fail
  (with_reducible refine hu.mono ?_)
  rintro en w1 ⟨rfl, rfl⟩
  go_wp2
  go_ret
  exact ⟨rfl, rfl⟩
theorem cut_down (p : Nat) (d : DS) (n : ByteArray) (k : Int) (W : World) (h : Rep W p d) (hd : upB d = false) : Calls Tryz.prog 31 #[dp p, .string n, .int .i64 k] W (Tells W (.int .i64 7)) := by
  have hu := find_down p d n W h hd
  clear h hd
  unfold dp at *
  go_enter Tryz.func31, Tryz.ntmps31
  go_wp2_with fail
  (with_reducible refine hu.mono ?_)
  rintro en w1 ⟨rfl, rfl⟩
  go_wp2
  go_ret
  exact ⟨rfl, rfl⟩
def cutE (a : Ab) (n : List UInt8) (k : Int) : Int :=
  match upA a, findL a.L n with
  | true, some x => if k < 0 ∨ (x.2.1.length : Int) < k then 1 else 0
  | true, none => 6
  | false, _ => 7
def cutA (a : Ab) (n : List UInt8) (k : Int) : Ab :=
  match upA a, findL a.L n with
  | true, some x => if k < 0 ∨ (x.2.1.length : Int) < k then a else { chgA a with L := setL a.L n (n, x.2.1.take k.toNat, min x.2.2 k.toNat) }
  | _, _ => a
theorem cut_do (p : Nat) (a : Ab) (S : Nat → Prop) (W : World) (n : ByteArray) (k : Int) (hn : n.size ≤ maxLen) (h : Is W p a S) :
    Calls Tryz.prog 31 #[dp p, .string n, .int .i64 k] W (Does W p S (.int .i64 (cutE a n.data.toList k)) (cutA a n.data.toList k)) := by
  have hI := h
  obtain ⟨d, hR, h1, h2, h3, h4, h5, h6⟩ := h
  have hu := up_abs h2 h3
  have hff := abs_find d.F n.data.toList
  rw [h4] at hff
  unfold cutE cutA
  rw [hu]
  cases hub : upB d with
  | false => exact (cut_down p d n k W hR hub).mono fun _ _ ht => does_tells hI ht
  | true =>
    cases hf : fileOf d.F n.data.toList with
    | none =>
      rw [hf] at hff
      simp only [hff, Option.map_none]
      exact (cut_none p d n k hn W hR hub hf).mono fun _ _ ht => does_tells hI ht
    | some f =>
      rw [hf] at hff
      simp only [hff, Option.map_some]
      obtain ⟨hf1, hf2⟩ := file_in hf
      by_cases hk : k < 0 ∨ ((absF f).2.1.length : Int) < k
      · simp only [if_pos hk]
        exact (cut_bad p d n hn W hR hub f hf k hk).mono fun _ _ ht => does_tells hI ht
      · simp only [if_neg hk]
        have hk' : k.toNat ≤ f.bytes.length := by
          have : ¬ (f.bytes.length : Int) < k := fun e => hk (.inr e)
          omega
        have hke : ((k.toNat : Nat) : Int) = k := by omega
        have hcs := cut_some p d n hn W hR hub f hf k.toNat hk'
        rw [hke] at hcs
        refine hcs.mono fun _ _ hg => does_gives h6 hg ?_
        rintro d' hR' ⟨v, rfl⟩
        refine ⟨h1, h2, chg_left (d := shortD d f k.toNat v) h2 h3, ?_, ?_⟩
        · show absL (repl f (shortF f k.toNat v) d.F) = _
          rw [abs_repl hR.sorted hR.blks hf1, h4, hf2]
          unfold absF shortF
          rw [hf2]
        · have ht := total_repl (f' := shortF f k.toNat v) hR.blks hf1
          have hl2 : (shortF f k.toNat v).bytes.length = k.toNat := by show (f.bytes.take k.toNat).length = k.toNat; simp; omega
          show d.used - ((f.bytes.length : Int) - (k.toNat : Int)) = (total (repl f (shortF f k.toNat v) d.F) : Int)
          omega
section
variable {W w : World} {p : Nat} {a : Ab}
end
end Go.Proofs.YtjnphajkoopkgaaGreatDoor.Dk
