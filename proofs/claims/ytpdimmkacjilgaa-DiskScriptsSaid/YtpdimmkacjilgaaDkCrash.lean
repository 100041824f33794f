/- Crash: what it leaves. No condition. -/
import Derived.Test.YtpdimmkacjilgaaDkAbs
import Derived.Test.YtpdimmkacjilgaaDkOrd
namespace Go.Proofs.Ytpdimmkacjilgaa
open Go.RowKit Go.Maps Go.ChangeMaps Go.WideMaps Go.Shelf
set_option linter.unusedVariables false
attribute [local go_sem ↓] Go.wp_at_zero Go.wp_at_succ
theorem addr_at (b off i : Nat) : (⟨b, off, none⟩ : Addr).add i = ⟨b, off + i, none⟩ := by unfold Addr.add; split <;> simp_all
/-- A slice of numbers that lies off S. -/
def KeepIn (w : World) (S : Nat → Prop) (a : Option Addr) (c : Nat) (l : List Int) : Prop :=
  (∀ n ∈ l, -9223372036854775808 ≤ n ∧ n ≤ 9223372036854775807) ∧ (0 < l.length → ∃ b off, a = some ⟨b, off, none⟩ ∧ b < w.heap.size ∧ ¬ S b ∧ ∀ j, j < l.length → w.cell? ⟨b, off + j, none⟩ = some (.int .i64 (l.getD j 0)))
theorem KeepIn.off {w w' : World} {S T : Nat → Prop} {a : Option Addr} {c : Nat} {l : List Int} (h : KeepIn w S a c l) (ho : Off T w w') (hT : ∀ k, k < w.heap.size → T k → S k) : KeepIn w' S a c l := by
  refine ⟨h.1, fun hp => ?_⟩
  obtain ⟨b, off, h1, h2, h3, h4⟩ := h.2 hp
  refine ⟨b, off, h1, Nat.lt_of_lt_of_le h2 ho.size, h3, fun j hj => ?_⟩
  exact (World.cell?_of_block (ho.block b h2 fun hk => h3 (hT b h2 hk))).trans (h4 j hj)
/-- How many bytes of those that wait are kept. -/
def keptOf (keep : List Int) (t wt : Nat) : Nat := if t < keep.length then (min (max (keep.getD t 0) 0) (wt : Int)).toNat else 0
def tearL (keep : List Int) : Nat → List AF → List AF × Nat
  | t, [] => ([], t)
  | t, x :: r => if x.2.1.length = x.2.2 then (x :: (tearL keep t r).1, (tearL keep t r).2)
    else ((x.1, x.2.1.take (x.2.2 + keptOf keep t (x.2.1.length - x.2.2)), x.2.2 + keptOf keep t (x.2.1.length - x.2.2)) :: (tearL keep (t + 1) r).1, (tearL keep (t + 1) r).2)
theorem keptOf_le (keep : List Int) (t wt : Nat) : keptOf keep t wt ≤ wt := by
  unfold keptOf
  split <;> omega
theorem repl_mid {f f' : DF} {H : List DF} : ∀ {G : List DF}, (G ++ f :: H).Pairwise (fun f g => f.blk ≠ g.blk) → repl f f' (G ++ f :: H) = G ++ f' :: H
  | [], hp => by
    obtain ⟨h1, _⟩ := List.pairwise_cons.1 hp
    have := repl_none (f := f) (f' := f') (F := H) (fun g hg e => h1 g hg e.symm)
    unfold repl at this ⊢
    rw [List.nil_append, List.map_cons, if_pos rfl, this]
    rfl
  | x :: G, hp => by
    obtain ⟨h1, h2⟩ := List.pairwise_cons.1 hp
    have ih := repl_mid (f' := f') h2
    have hne : x.blk ≠ f.blk := h1 f (by simp)
    unfold repl at ih ⊢
    rw [List.cons_append, List.map_cons, if_neg hne, ih]
    rfl
/-- The state of the loop: j names are done, t files torn. -/
def CrAt (W1 : World) (p : Nat) (d0 : DS) (keep : List Int) (j t : Nat) (w : World) : Prop :=
  ∃ d G H, Rep w p d ∧ d.F = G ++ H ∧ G.length = j ∧ absL H = (absL d0.F).drop j ∧ absL G ++ (tearL keep t (absL H)).1 = (tearL keep 0 (absL d0.F)).1 ∧ (tearL keep t (absL H)).2 = (tearL keep 0 (absL d0.F)).2 ∧
    d.room = d0.room ∧ d.used - (total d.F : Int) = d0.used - (total d0.F : Int) ∧ (∀ k, Foot p d k → Foot p d0 k ∨ W1.heap.size ≤ k) ∧ Off (Foot p d0) W1 w ∧ t ≤ j
theorem CrAt.start {W W1 : World} {p : Nat} {d : DS} {keep : List Int} (h : Rep W p d) (hb : Below W.heap.size W W1) : CrAt W1 p d keep 0 0 W1 :=
  ⟨d, [], d.F, h.later hb, rfl, rfl, by simp, by simp [absL], rfl, rfl, rfl, fun k hk => .inl hk, Off.refl _ _, Nat.le_refl _⟩
/-- The next file. -/
theorem CrAt.next {W1 w : World} {p : Nat} {d0 : DS} {keep : List Int} {j t : Nat} (h : CrAt W1 p d0 keep j t w) {x : AF} (hx : (absL d0.F)[j]? = some x) :
    ∃ d f, Rep w p d ∧ f ∈ d.F ∧ fileOf d.F x.1 = some f ∧ absF f = x ∧ (f.bytes.length = f.safe → CrAt W1 p d0 keep (j + 1) t w) ∧
      ∀ k, f.bytes.length ≠ f.safe → k = f.safe + keptOf keep t (f.bytes.length - f.safe) → ∀ w' v', Rep w' p (syncD (shortD d f k v') (shortF f k v')) → Off (Foot p d) w w' → (∀ i, Foot p (syncD (shortD d f k v') (shortF f k v')) i → Foot p d i ∨ w.heap.size ≤ i) → CrAt W1 p d0 keep (j + 1) (t + 1) w' := by
  obtain ⟨d, G, H, hR, hF, hG, hH, h1, h2, h3, h4, h5, h6, h7⟩ := h
  have hd : (absL d0.F).drop j = x :: (absL d0.F).drop (j + 1) := by
    obtain ⟨hj, hx'⟩ := List.getElem?_eq_some_iff.1 hx
    rw [List.drop_eq_getElem_cons hj, hx']
  rw [hd] at hH
  cases H with
  | nil => cases hH
  | cons f H =>
    have hf : absF f = x := by injection hH
    have hH' : absL H = (absL d0.F).drop (j + 1) := by injection hH
    have hm : f ∈ d.F := by rw [hF]; simp
    have hfo := fileOf_mem hR.sorted hm
    have hb := hR.blks
    rw [hF] at hb
    refine ⟨d, f, hR, hm, by rw [← hf]; exact hfo, hf, fun he => ?_, fun k hne hk w' v' hR' ho hft => ?_⟩
    · have e : ∀ t, tearL keep t (absL (f :: H)) = (absF f :: (tearL keep t (absL H)).1, (tearL keep t (absL H)).2) := fun t => by
        show tearL keep t (absF f :: absL H) = _
        rw [tearL, if_pos (show (absF f).2.1.length = (absF f).2.2 from he)]
      rw [e] at h1 h2
      refine ⟨d, G ++ [f], H, hR, by rw [hF]; simp, by simp [hG], hH', ?_, h2, h3, h4, h5, h6, by omega⟩
      rw [← h1]
      unfold absL
      simp
    · have e : tearL keep t (absL (f :: H)) = ((f.name, f.bytes.take k, k) :: (tearL keep (t + 1) (absL H)).1, (tearL keep (t + 1) (absL H)).2) := by
        show tearL keep t (absF f :: absL H) = _
        rw [tearL, if_neg (show ¬ (absF f).2.1.length = (absF f).2.2 from hne)]
        rw [hk]
        rfl
      rw [e] at h1 h2
      have e1 : repl f (shortF f k v') d.F = G ++ shortF f k v' :: H := by rw [hF]; exact repl_mid hb
      have hb2 : (G ++ shortF f k v' :: H).Pairwise (fun f g => f.blk ≠ g.blk) := by
        rw [List.pairwise_append] at hb ⊢
        obtain ⟨b1, b2, b3⟩ := hb
        refine ⟨b1, ?_, fun a ha b hb' => ?_⟩
        · obtain ⟨c1, c2⟩ := List.pairwise_cons.1 b2
          exact List.pairwise_cons.2 ⟨c1, c2⟩
        · rcases List.mem_cons.1 hb' with rfl | hb''
          · exact b3 a ha f (by simp)
          · exact b3 a ha b (by simp [hb''])
      have e2 : (syncD (shortD d f k v') (shortF f k v')).F = G ++ syncF (shortF f k v') :: H := by
        show repl (shortF f k v') (syncF (shortF f k v')) (repl f (shortF f k v') d.F) = _
        rw [e1]
        exact repl_mid hb2
      have hkl : k ≤ f.bytes.length := by
        have := keptOf_le keep t (f.bytes.length - f.safe)
        have := (hR.files f hm).safe
        omega
      have hla : (f.bytes.take k).length = k := by simp; omega
      have e3 : absF (syncF (shortF f k v')) = (f.name, f.bytes.take k, k) := by
        show (f.name, f.bytes.take k, (f.bytes.take k).length) = _
        rw [hla]
      have hof : Off (Foot p d0) W1 w' := h6.trans ho (fun i hi hk => by
        rcases h5 i hk with q | q
        · exact q
        · omega)
      have htj : t + 1 ≤ j + 1 := by omega
      have hgl : (G ++ [syncF (shortF f k v')]).length = j + 1 := by rw [List.length_append, hG]; rfl
      have hsp : (syncD (shortD d f k v') (shortF f k v')).F = (G ++ [syncF (shortF f k v')]) ++ H := by rw [e2]; simp
      have hft' : ∀ i, Foot p (syncD (shortD d f k v') (shortF f k v')) i → Foot p d0 i ∨ W1.heap.size ≤ i := fun i hi => by
        rcases hft i hi with q | q
        · exact h5 i q
        · have := h6.size; exact .inr (by omega)
      generalize hdd : syncD (shortD d f k v') (shortF f k v') = dd at *
      refine ⟨dd, G ++ [syncF (shortF f k v')], H, hR', hsp, hgl, hH', ?_, h2, ?_, ?_, hft', hof, htj⟩
      · rw [← h1]
        unfold absL
        simp [e3]
      · rw [← hdd]; exact h3
      · rw [hsp, List.append_assoc]
        show dd.used - (total (G ++ syncF (shortF f k v') :: H) : Int) = _
        rw [hF] at h4
        have t1 : ∀ (A : List DF) (y : DF) (B : List DF), total (A ++ y :: B) = total A + y.bytes.length + total B := fun A y B => by unfold total; simp; omega
        rw [t1] at h4 ⊢
        have hl3 : (syncF (shortF f k v')).bytes.length = k := hla
        rw [hl3]
        have hus : dd.used = d.used - ((f.bytes.length : Int) - (k : Int)) := by rw [← hdd]; rfl
        omega
theorem CrAt.offs {W1 w : World} {p : Nat} {d0 : DS} {keep : List Int} {j t : Nat} (h : CrAt W1 p d0 keep j t w) : Off (Foot p d0) W1 w ∧ t ≤ j := by
  obtain ⟨d, G, H, hR, hF, hG, hH, h1, h2, h3, h4, h5, h6, h7⟩ := h
  exact ⟨h6, h7⟩
theorem CrAt.drew {W1 w : World} {p : Nat} {d0 : DS} {keep : List Int} {j t : Nat} (h : CrAt W1 p d0 keep j t w) : CrAt W1 p d0 keep j t w.drew := by
  obtain ⟨d, G, H, hR, hF, hG, hH, h1, h2, h3, h4, h5, h6, h7⟩ := h
  exact ⟨d, G, H, hR.later (Below.refl _ _).drew, hF, hG, hH, h1, h2, h3, h4, h5, h6.drew, h7⟩
theorem CrAt.rep {W1 w : World} {p : Nat} {d0 : DS} {keep : List Int} {j t : Nat} (h : CrAt W1 p d0 keep j t w) : ∃ d, Rep w p d := by
  obtain ⟨d, G, H, hR, _⟩ := h
  exact ⟨d, hR⟩
/-- What a crash leaves. -/
def crashD (d : DS) : DS := { d with fused := false, left := 0 }
theorem crash_rep {W : World} {p : Nat} {d : DS} (h : Rep W p d) :
    Rep ((W.setCell ⟨p, 3, none⟩ (.bool false)).setCell ⟨p, 4, none⟩ (.int .i64 0)) p (crashD d) ∧ Off (· = p) W ((W.setCell ⟨p, 3, none⟩ (.bool false)).setCell ⟨p, 4, none⟩ (.int .i64 0)) := by
  have e1 : decide ((0 : Int) ≤ -1) = false := by decide
  have e2 : max (-1 : Int) 0 = 0 := by decide
  have e3 : fuseD d (-1) = crashD d := by unfold fuseD crashD; rw [e1, e2]
  have := fuse_rep h (-1) (by decide)
  rw [e1, e2, e3] at this
  exact this
/-- What Crash leaves. -/
def Crashes (W : World) (p : Nat) (d : DS) (keep : List Int) (e : Ending) (w' : World) : Prop :=
  e = .returned (.int .i64 ((tearL keep 0 (absL d.F)).2 : Int)) ∧ ∃ d', Rep w' p d' ∧ absL d'.F = (tearL keep 0 (absL d.F)).1 ∧ d'.room = d.room ∧ d'.fused = false ∧ d'.left = 0 ∧ d'.used - (total d'.F : Int) = d.used - (total d.F : Int) ∧ Off (Foot p d) W w' ∧ ∀ k, Foot p d' k → Foot p d k ∨ W.heap.size ≤ k
theorem crash_end {W W1 w : World} {p : Nat} {d0 : DS} {keep : List Int} {t : Nat} (hb : Below W.heap.size W W1) (h : CrAt W1 p d0 keep d0.F.length t w) :
    Crashes W p d0 keep (.returned (.int .i64 (t : Int))) ((w.setCell ⟨p, 3, none⟩ (.bool false)).setCell ⟨p, 4, none⟩ (.int .i64 0)) := by
  obtain ⟨d, G, H, hR, hF, hG, hH, h1, h2, h3, h4, h5, h6, h7⟩ := h
  have hH0 : absL H = [] := by rw [hH, List.drop_eq_nil_iff]; unfold absL; simp
  have hn : H = [] := by
    unfold absL at hH0
    exact List.map_eq_nil_iff.1 hH0
  subst hn
  rw [List.append_nil] at hF
  obtain ⟨R, o⟩ := crash_rep hR
  have e1 : (tearL keep t (absL [])).1 = [] := rfl
  have e2 : (tearL keep t (absL [])).2 = t := rfl
  rw [e1, List.append_nil] at h1
  rw [e2] at h2
  refine ⟨by rw [h2], _, R, ?_, h3, rfl, rfl, h4, ((Off.of_below (Foot p d0) hb).trans h6 fun _ _ x => x).trans o fun k hk e => ?_, fun k hk => ?_⟩
  · show absL d.F = _
    rw [hF, h1]
  · exact .inl e
  · rcases h5 k hk with q | q
    · exact .inl q
    · have := hb.size; exact .inr (by omega)
set_option maxHeartbeats 4000000 in
set_option maxRecDepth 100000 in
theorem crash_c (p : Nat) (d : DS) (W : World) (h : Rep W p d) (hlen : d.F.length ≤ 1000000) (a : Option Addr) (c : Nat) (keep : List Int) (hkl : keep.length ≤ 9223372036854775807) (hk : KeepIn W (Foot p d) a c keep) :
    Calls Try.prog 25 #[dp p, .slice a keep.length c] W (Crashes W p d keep) := by
  have hnm := names_c p d W h hlen
  unfold dp at *
  go_enter Try.func25, Try.ntmps25
  go_wp2_with fail
  (with_reducible refine hnm.mono ?_)
  rintro en W1 ⟨v, rfl, hrow, hnil, hb⟩
  have HB := Lib.hid hb
  have ST := Lib.hid (CrAt.start (keep := keep) h hb)
  have HK := Lib.hid hk
  have HR := Lib.hid h
  obtain ⟨nb, ncap, hv⟩ : ∃ nb ncap, v = .slice nb d.F.length ncap := by
    rcases hrow.2 with ⟨hv, h0⟩ | ⟨g, cap, cur, hv, _⟩
    · exact ⟨_, _, by rw [h0]; exact hv⟩
    · exact ⟨_, _, hv⟩
  subst hv
  have HW := Lib.hid hrow
  clear hnm hb hrow hk h hnil
  go_wp2_with fail
  go_loopw [5, 7, 8, 9, 10, 16] (fun t x1 x2 x3 x4 i wr => ∃ j t0 : Nat, i = .int .i64 j ∧ t = .int .i64 t0 ∧ j ≤ d.F.length ∧ CrAt W1 p d keep j t0 wr) (fun _ _ _ _ _ i _ => d.F.length - (intOf i).toNat)
  case atStart => exact ⟨0, 0, rfl, rfl, Nat.zero_le _, ST.out⟩
  case round =>
    obtain ⟨j, t0, rfl, rfl, hj, hC⟩ := hrel
    by_cases hjl : j < d.F.length
    · obtain ⟨f0, hf0⟩ : ∃ f0, d.F[j]? = some f0 := ⟨_, List.getElem?_eq_getElem hjl⟩
      have hx : (absL d.F)[j]? = some (absF f0) := by unfold absL; rw [List.getElem?_map, hf0]; rfl
      obtain ⟨d1, f, hR1, hfm, hfo, hfx, hskip, htear⟩ := hC.next hx
      obtain ⟨hoff, htj⟩ := hC.offs
      have hrow1 := own_off HW.out hoff (fun k hk hkF => by
        have h1 := (HW.out.lt k hk).1
        have h2 := foot_lt HR.out hkF
        omega)
      obtain ⟨g, rfl⟩ : ∃ g, nb = some ⟨g, 0, none⟩ := by
        rcases HW.out.2 with ⟨hv, h0⟩ | ⟨g, cap, cur, hv, _⟩
        · omega
        · injection hv with h1 _ _
          exact ⟨g, h1⟩
      have hnc : wr.cell? ⟨g, j, none⟩ = some (.string ⟨f0.name.toArray⟩) := by
        have := hrow1.cells (g := g) rfl j (.string ⟨f0.name.toArray⟩) (by rw [List.getElem?_map, List.getElem?_map, hf0]; rfl)
        rw [addr_at, Nat.zero_add] at this
        exact this
      have hn40 : (⟨f0.name.toArray⟩ : ByteArray).size ≤ maxLen := by
        have h1 := (HR.out.files f0 (List.mem_of_getElem? hf0)).name
        show f0.name.toArray.size ≤ maxLen
        unfold maxLen
        simp
        omega
      have hl := look_run hR1 ⟨f0.name.toArray⟩ hn40
      have hfo' : fileOf d1.F (⟨f0.name.toArray⟩ : ByteArray).data.toList = some f := hfo
      unfold ptrOf at hl
      rw [hfo'] at hl
      simp only at hl
      obtain ⟨y0, y1, y2, y3, y4⟩ := hR1.at
      have fi := hR1.files f hfm
      have x0 : wr.cell? ⟨f.blk, 0, none⟩ = some f.v := (fi.box.cell 0).trans rfl
      have x1 : wr.cell? ⟨f.blk, 1, none⟩ = some (.int .i64 (f.safe : Int)) := (fi.box.cell 1).trans rfl
      obtain ⟨ao, cap, hv⟩ : ∃ ao cap, f.v = .slice ao f.bytes.length cap := by
        rcases fi.row.2 with ⟨hv, h0⟩ | ⟨g, cap, cur, hv, _⟩
        · exact ⟨_, _, by rw [h0]; exact hv⟩
        · exact ⟨_, _, hv⟩
      rw [hv] at x0
      have hsf := fi.safe
      have hge := total_ge hfm
      have hus := hR1.used
      have hrm := hR1.room
      have hw1 : IntKind.i64.wrap ((f.bytes.length : Int) - (f.safe : Int)) = (f.bytes.length : Int) - (f.safe : Int) := IntWalk.i64_in _ (by omega)
      have hfl : f.bytes.length ≤ 4194304 := by omega
      have HS := Lib.hid hskip
      have HT := Lib.hid htear
      have HO := Lib.hid hoff
      have HD := Lib.hid hR1
      have HM := Lib.hid hfm
      have HU := Lib.hid hus
      clear hC hx hskip htear hoff hrow1 hfo hfo' hfx hR1 fi hge hus hrm hfm hv
      by_cases hwt : f.bytes.length = f.safe
      · have hwt' : (f.bytes.length : Int) - (f.safe : Int) = 0 := by omega
        rw [hwt'] at hw1
        go_wp2_with fail
        go_region_held3 (fun w => w.cell? ⟨f.blk, 0, none⟩ = some (.slice ao f.bytes.length cap) ∧ w.cell? ⟨f.blk, 1, none⟩ = some (.int .i64 (f.safe : Int))) (exact ⟨x0, x1⟩) (fail)
        go_wp2_with fail
        go_roundw
        case rel => exact ⟨j + 1, t0, by go_num, rfl, hjl, (HS.out hwt).drew⟩
        case measure => simp [intOf]; omega
      · have hwt0 : (f.bytes.length : Int) - (f.safe : Int) ≠ 0 := by omega
        have hwt1 : ((f.bytes.length : Int) - (f.safe : Int) == 0) = false := by rw [beq_eq_false_iff_ne]; exact hwt0
        have hwt2 : decide ((f.bytes.length : Int) - (f.safe : Int) = 0) = false := decide_eq_false hwt0
        obtain ⟨kt, hkt⟩ : ∃ kt, kt = keptOf keep t0 (f.bytes.length - f.safe) := ⟨_, rfl⟩
        have hkl2 : kt ≤ f.bytes.length - f.safe := by rw [hkt]; exact keptOf_le _ _ _
        have hdr : Rep wr.drew p d1 := HD.out.later (Below.refl _ _).drew
        have hsh := shorten_c p d1 wr.drew hdr f HM.out (f.safe + kt) (by omega)
        have hw2 : IntKind.i64.wrap ((f.safe : Int) + (kt : Int)) = ((f.safe + kt : Nat) : Int) := by rw [IntWalk.i64_in _ (by omega)]; omega
        have hw3 : IntKind.i64.wrap ((t0 : Int) + 1) = ((t0 + 1 : Nat) : Int) := by rw [IntWalk.i64_in _ (by omega)]; omega
        have hK1 : KeepIn wr.drew (Foot p d) a c keep := ((HK.out.off (Off.of_below (fun _ => False) HB.out) (fun _ _ x => x.elim)).off HO.out (fun _ _ x => x)).off ((Off.refl (fun _ => False) wr).drew) (fun _ _ x => x.elim)
        have HS2 := Lib.hid (And.intro hwt hkt)
        have HDR := Lib.hid hdr
        unfold dp at hsh
        rw [show ((f.safe + kt : Nat) : Int) = (f.safe : Int) + (kt : Int) by omega] at hsh hw2
        by_cases htk : t0 < keep.length
        · obtain ⟨b, off, rfl, hb1, hb2, hb3⟩ := hK1.2 (by omega)
          have hkc : wr.drew.cell? ⟨b, off + t0, none⟩ = some (.int .i64 (keep.getD t0 0)) := hb3 t0 htk
          have hmm : min (max (keep.getD t0 0) 0) ((f.bytes.length : Int) - (f.safe : Int)) = (kt : Int) := by
            rw [hkt]
            unfold keptOf
            rw [if_pos htk]
            omega
          have htk' : (t0 : Int) < (keep.length : Int) := by omega
          generalize hkv : keep.getD t0 0 = kv at hkc hmm
          clear hkv
          clear hb3 hK1 hkt hwt hdr
          go_wp2_with fail
          go_region_held3 (fun w => w.cell? ⟨f.blk, 0, none⟩ = some (.slice ao f.bytes.length cap) ∧ w.cell? ⟨f.blk, 1, none⟩ = some (.int .i64 (f.safe : Int))) (exact ⟨x0, x1⟩) (fail)
          have x1' : wr.drew.cell? ⟨f.blk, 1, none⟩ = some (.int .i64 (f.safe : Int)) := x1
          go_wp2_with fail
          (with_reducible refine hsh.mono ?_)
          rintro en w2 ⟨rfl, d2, R2, ⟨v', rfl⟩, o2, f2⟩
          have hm2 : shortF f (f.safe + kt) v' ∈ (shortD d1 f (f.safe + kt) v').F := List.mem_map.2 ⟨f, HM.out, if_pos rfl⟩
          have fi2 := R2.files _ hm2
          have hla : (shortF f (f.safe + kt) v').bytes.length = f.safe + kt := by show (f.bytes.take (f.safe + kt)).length = _; simp; omega
          have hmi : ((shortF f (f.safe + kt) v').safe : Int) = (f.safe : Int) := by show ((min f.safe (f.safe + kt) : Nat) : Int) = _; omega
          have q1 : w2.cell? ⟨f.blk, 1, none⟩ = some (.int .i64 (f.safe : Int)) := by rw [← hmi]; exact (fi2.box.cell 1).trans rfl
          have q2 : w2.frozen? ⟨f.blk, 1, none⟩ = false := fi2.box.frozen 1
          obtain ⟨R3, o3, f3⟩ := sync_rep R2 hm2
          rw [hla, show ((f.safe + kt : Nat) : Int) = (f.safe : Int) + (kt : Int) by omega] at R3 o3
          have E := Lib.hid (HT.out (f.safe + kt) HS2.out.1 (by rw [HS2.out.2]) _ v' R3 (((Off.refl (Foot p d1) wr).drew.trans o2 fun _ _ x => x).trans o3 fun k _ hk => .inr (.inr ⟨f, HM.out, .inl hk⟩)) fun i hi => f2 i (f3 i hi))
          clear R3 o3 f3 R2 o2 f2 fi2 hm2
          go_wp2_with fail
          go_roundw
          case rel => exact ⟨j + 1, t0 + 1, by go_num, by go_num, hjl, E.out⟩
          case measure => simp [intOf]; omega
        · have hk0 : kt = 0 := by rw [HS2.out.2]; unfold keptOf; rw [if_neg htk]
          have htk' : ¬ (t0 : Int) < (keep.length : Int) := by omega
          clear hK1 hkt hwt hdr
          go_wp2_with fail
          go_region_held3 (fun w => w.cell? ⟨f.blk, 0, none⟩ = some (.slice ao f.bytes.length cap) ∧ w.cell? ⟨f.blk, 1, none⟩ = some (.int .i64 (f.safe : Int))) (exact ⟨x0, x1⟩) (fail)
          have x1' : wr.drew.cell? ⟨f.blk, 1, none⟩ = some (.int .i64 (f.safe : Int)) := x1
          have hw4 : IntKind.i64.wrap ((f.safe : Int) + 0) = (f.safe : Int) + 0 := IntWalk.i64_in _ (by omega)
          subst hk0
          rw [show (f.safe : Int) + ((0 : Nat) : Int) = (f.safe : Int) by omega] at hsh
          go_wp2_with fail
          (with_reducible refine hsh.mono ?_)
          rintro en w2 ⟨rfl, d2, R2, ⟨v', rfl⟩, o2, f2⟩
          have hm2 : shortF f (f.safe + 0) v' ∈ (shortD d1 f (f.safe + 0) v').F := List.mem_map.2 ⟨f, HM.out, if_pos rfl⟩
          have fi2 := R2.files _ hm2
          have hla : (shortF f (f.safe + 0) v').bytes.length = f.safe + 0 := by show (f.bytes.take (f.safe + 0)).length = _; simp; omega
          have hmi : ((shortF f (f.safe + 0) v').safe : Int) = (f.safe : Int) := by show ((min f.safe (f.safe + 0) : Nat) : Int) = _; omega
          have q1 : w2.cell? ⟨f.blk, 1, none⟩ = some (.int .i64 (f.safe : Int)) := by rw [← hmi]; exact (fi2.box.cell 1).trans rfl
          have q2 : w2.frozen? ⟨f.blk, 1, none⟩ = false := fi2.box.frozen 1
          obtain ⟨R3, o3, f3⟩ := sync_rep R2 hm2
          rw [hla, show ((f.safe + 0 : Nat) : Int) = (f.safe : Int) by omega] at R3 o3
          have E := Lib.hid (HT.out (f.safe + 0) HS2.out.1 (by rw [HS2.out.2]) _ v' R3 (((Off.refl (Foot p d1) wr).drew.trans o2 fun _ _ x => x).trans o3 fun k _ hk => .inr (.inr ⟨f, HM.out, .inl hk⟩)) fun i hi => f2 i (f3 i hi))
          clear R3 o3 f3 R2 o2 f2 fi2 hm2
          go_wp2_with fail
          go_roundw
          case rel => exact ⟨j + 1, t0 + 1, by go_num, by go_num, hjl, E.out⟩
          case measure => simp [intOf]; omega
    · obtain ⟨df, hRf⟩ := hC.rep
      have z3 := hRf.box.frozen 3
      have z4 := hRf.box.frozen 4
      obtain ⟨y0, y1, y2, y3, y4⟩ := hRf.at
      have hje : j = d.F.length := by omega
      subst hje
      have HE := Lib.hid (crash_end HB.out hC)
      clear hC hRf
      go_wp2
      go_ret
      exact HE.out
end Go.Proofs.Ytpdimmkacjilgaa
