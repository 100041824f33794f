/- Merged texts. What each proves is told at its head. -/
import Derived.Test.YtjnphajkoopkgaaGreatDoorTG
import Derived.Maps.AppendAt
import Derived.Deep.DeepCutAuto
import Derived.Deep.QuietTactic
import Derived.BigQuiet
/- The document's disk: a file taken out of the row. No condition. -/
namespace Go.Proofs.YtjnphajkoopkgaaGreatDoor.Dk.Kd
open Go.RowKit Go.Maps Go.ChangeMaps Go.WideMaps Go.Shelf
set_option linter.unusedVariables false
attribute [local go_sem ↓] Go.wp_at_zero Go.wp_at_succ
theorem infoFile : (Tryz.prog.info? 120).map (fun i => (i.zero, i.size, i.bytes)) = some (some (.agg #[.string ⟨#[]⟩, .string ⟨#[]⟩, .int .i64 0]), 3, 40) := by kernel_rfl
theorem cells_one {L : List AF} : ∀ u ∈ fileCells L, u.oneCell' = true := by
  intro u hu
  unfold fileCells at hu
  obtain ⟨x, _, hx⟩ := List.mem_flatMap.1 hu
  unfold fC at hx
  simp at hx
  rcases hx with rfl | rfl | rfl <;> rfl
/-- The cells of a piece of the row. -/
theorem piece_cells {w : World} {q g m cap : Nat} {a : Ab} (h : KAt w q a (.slice (some ⟨g, 0, none⟩) m cap)) (i k : Nat) (hk : i + k ≤ a.L.length) :
    (fileCells ((a.L.drop i).take k)).length = k * 3 ∧ ∀ j u, (fileCells ((a.L.drop i).take k))[j]? = some u → w.cell? ((⟨g, i * 3, none⟩ : Addr).add j) = some u := by
  have hl : (fileCells ((a.L.drop i).take k)).length = k * 3 := by rw [fileCells_len, List.length_take, List.length_drop]; congr 1; omega
  refine ⟨hl, fun j u hu => ?_⟩
  have hj : j < k * 3 := by
    have := (List.getElem?_eq_some_iff.1 hu).1
    omega
  rw [fileCells_take _ _ (by rw [List.length_drop]; omega), fileCells_drop _ _ (by omega), List.getElem?_take, if_pos hj, List.getElem?_drop] at hu
  have hm : m = a.L.length := by
    rcases h.shape with ⟨h1, _⟩ | ⟨g', cap', h1⟩
    · cases h1
    · injection h1
  subst hm
  rw [addr_at]
  rw [h.row.cellAt (i * 3 + j) (by omega)]
  exact hu
set_option maxHeartbeats 8000000 in
set_option maxRecDepth 100000 in
theorem kcut_c (q : Nat) (a : Ab) (S : Nat → Prop) (n : ByteArray) (t : Int) (W : World) (h : KIs W q a S) (ha : AbOk a) (hlen : a.L.length ≤ 1000000) :
    Calls Tryz.prog 62 #[dp q, .string n, .int .i64 t] W (KDoes W q S (.int .i64 (cutE a n.data.toList t)) (cutA a n.data.toList t)) := by
  have hI := h
  obtain ⟨v, h, hq, hvS⟩ := h
  have c1 := kup_c q a v W h ha
  have c2 := kfind_c q a v n W h hlen
  unfold cutE cutA
  unfold dp at *
  cases hu : upA a with
  | false =>
    rw [hu] at c1
    go_enter Tryz.func62, Tryz.ntmps62
    go_wp2_with fail
    (with_reducible refine c1.mono ?_)
    rintro en w1 ⟨rfl, rfl⟩
    go_wp2
    go_ret
    exact kdoes_tells hI ⟨rfl, rfl⟩
  | true =>
    rw [hu] at c1
    rcases kidx_spec n.data.toList a.L 0 with ⟨h1, h2⟩ | ⟨i, x, h1, h2, h3, h4⟩
    · rw [h1] at c2
      rw [h2]
      go_enter Tryz.func62, Tryz.ntmps62
      go_wp2_with fail
      (with_reducible refine c1.mono ?_)
      rintro en w1 ⟨rfl, hw⟩
      have hw' := hw.symm
      subst hw'
      go_wp2_with fail
      (with_reducible refine c2.mono ?_)
      rintro en w1 ⟨rfl, rfl⟩
      go_wp2
      go_ret
      exact kdoes_tells hI ⟨rfl, rfl⟩
    · rw [h1, Nat.zero_add] at c2
      rw [h3]
      obtain ⟨nb, cap, rfl⟩ := h.slice
      have y1 : W.cell? ⟨q, 1, none⟩ = some (.slice nb a.L.length cap) := (h.box.cell 1).trans rfl
      obtain ⟨g, rfl, b0, b1, b2, b3⟩ := h.file h2
      have hil : i < a.L.length := (List.getElem?_eq_some_iff.1 h2).1
      have hsz : (⟨x.2.1.toArray⟩ : ByteArray).size = x.2.1.length := by show x.2.1.toArray.size = _; simp
      have hx4 : x.2.1.length ≤ 4194304 := by
        have h5 := totL_take h2
        have h6 := totL_take_le a.L (i + 1)
        have h7 := ha.tot
        have h8 := ha.room
        omega
      by_cases hbad : t < 0 ∨ (x.2.1.length : Int) < t
      · simp only [if_pos hbad]
        rw [← hsz] at hbad
        generalize (⟨x.2.1.toArray⟩ : ByteArray) = sx at *
        rcases hbad with hb1 | hb2
        · go_enter Tryz.func62, Tryz.ntmps62
          go_wp2_with fail
          (with_reducible refine c1.mono ?_)
          rintro en w1 ⟨rfl, hw⟩
          have hw' := hw.symm
          subst hw'
          go_wp2_with fail
          (with_reducible refine c2.mono ?_)
          rintro en w1 ⟨rfl, hw⟩
          have hw' := hw.symm
          subst hw'
          go_wp2
          go_ret
          exact kdoes_tells hI ⟨rfl, rfl⟩
        · have hb3 : ¬ t < 0 := by omega
          go_enter Tryz.func62, Tryz.ntmps62
          go_wp2_with fail
          (with_reducible refine c1.mono ?_)
          rintro en w1 ⟨rfl, hw⟩
          have hw' := hw.symm
          subst hw'
          go_wp2_with fail
          (with_reducible refine c2.mono ?_)
          rintro en w1 ⟨rfl, hw⟩
          have hw' := hw.symm
          subst hw'
          go_wp2
          go_ret
          exact kdoes_tells hI ⟨rfl, rfl⟩
      · simp only [if_neg hbad]
        obtain ⟨t, rfl⟩ : ∃ k : Nat, t = k := ⟨t.toNat, by omega⟩
        have htl : t ≤ x.2.1.length := by
          have : ¬ (x.2.1.length : Int) < (t : Int) := fun e => hbad (.inr e)
          omega
        have hset := setL_set ha.sorted (y := (n.data.toList, x.2.1.take t, min x.2.2 t)) h2
        rw [h4] at hset
        have HS := Lib.hid (And.intro hset h4)
        obtain ⟨k0, o0⟩ := h.set1 h2 (x.2.1.take t)
        have k1 := k0.later (Below.refl _ _).drew
        have h2b : (a.L.set i (x.1, x.2.1.take t, x.2.2))[i]? = some (x.1, x.2.1.take t, x.2.2) := by rw [List.getElem?_set_self hil]
        obtain ⟨g', hg', e0, e1, e2, e3⟩ := k1.file (j := i) h2b
        have hgg : g' = g := by injection hg' with e; injection e with e; exact e.symm
        subst hgg
        have y1' := (k1.box.cell 1).trans rfl
        simp only [List.getElem?_toArray, List.getElem?_cons_zero, List.getElem?_cons_succ] at y1'
        have hx : (⟨(x.2.1.take t).toArray⟩ : ByteArray) = (⟨x.2.1.toArray⟩ : ByteArray).extract 0 t := by
          apply ByteArray.ext
          apply Array.toList_inj.1
          simp
        rw [hx] at k1 e1 e2 y1' k0
        have htz : t ≤ (⟨x.2.1.toArray⟩ : ByteArray).size := by rw [hsz]; exact htl
        have ht0 : (0 : Int) ≤ (t : Int) := by omega
        clear hset hbad hg'
        go_enter Tryz.func62, Tryz.ntmps62
        generalize (⟨x.2.1.toArray⟩ : ByteArray) = sx at *
        have htz' : (t : Int) ≤ (sx.size : Int) := by omega
        have htz3 : ¬ (sx.size : Int) < (t : Int) := by omega
        go_wp2_with fail
        (with_reducible refine c1.mono ?_)
        rintro en w1 ⟨rfl, hw⟩
        have hw' := hw.symm
        subst hw'
        go_wp2_with fail
        (with_reducible refine c2.mono ?_)
        rintro en w1 ⟨rfl, hw⟩
        have hw' := hw.symm
        subst hw'
        go_upto_region 8 with fail
        go_cut [] (fun w => (W.setCell ⟨g', i * 3 + 1, none⟩ (.string (sx.extract 0 t))).drew = w)
        case first =>
          go_region_with (fail)
          all_goals
            go_wp2_with fail
            go_meet
            exact rfl
        case rest =>
          subst hcut
          have hk2 : KAt ((W.setCell ⟨g', i * 3 + 1, none⟩ (.string (sx.extract 0 t))).setCell ⟨g', i * 3 + 2, none⟩ (.int .i64 (min x.2.2 t : Nat))).drew.drew q { a with L := a.L.set i (x.1, x.2.1.take t, min x.2.2 t) } (.slice (some ⟨g', 0, none⟩) a.L.length cap) := by
            have := (k1.set2' h2b (min x.2.2 t)).1.later (Below.refl _ _).drew
            rw [List.set_set] at this
            exact this
          have ho2 : Off (fun k => k = g') W ((W.setCell ⟨g', i * 3 + 1, none⟩ (.string (sx.extract 0 t))).setCell ⟨g', i * 3 + 2, none⟩ (.int .i64 (min x.2.2 t : Nat))).drew.drew := ((Off.one W ⟨g', i * 3 + 1, none⟩ _).drew.set (p := ⟨g', i * 3 + 2, none⟩) (.inl rfl) _).drew
          have hch := kchg hk2 ha hu
          unfold dp at hch
          have hmin : min (x.2.2 : Int) (t : Int) = ((min x.2.2 t : Nat) : Int) := by omega
          have HO := Lib.hid ho2
          clear ho2 hk2 k1 k0 o0 h c1 c2
          go_upto_region 9 with fail
          go_cut [] (fun w => ((W.setCell ⟨g', i * 3 + 1, none⟩ (.string (sx.extract 0 t))).setCell ⟨g', i * 3 + 2, none⟩ (.int .i64 (min x.2.2 t : Nat))).drew.drew = w)
          case first =>
            go_region_with (fail)
            all_goals
              go_wp2_with fail
              go_meet
              exact rfl
          case rest =>
            subst hcut
            go_wp2_with fail
            (with_reducible refine hch.mono ?_)
            rintro en w1 ⟨rfl, hk3, ho3⟩
            go_wp2
            go_ret
            refine ⟨rfl, ⟨_, ?_, .inl hq, fun k hk => .inl (hvS k hk)⟩, (HO.out.mono fun k _ e => ?_).trans ho3 fun k _ e => ?_⟩
            · rw [Int.toNat_natCast, HS.out.1, ← HS.out.2]
              exact hk3
            · exact hvS k (by rw [e]; rfl)
            · rw [e]; exact hq
end Go.Proofs.YtjnphajkoopkgaaGreatDoor.Dk.Kd
/- The document's disk: a file put into the row. No condition. -/
namespace Go.Proofs.YtjnphajkoopkgaaGreatDoor.Dk.Kd
open Go.RowKit Go.Maps Go.ChangeMaps Go.WideMaps Go.Shelf
set_option linter.unusedVariables false
attribute [local go_sem ↓] Go.wp_at_zero Go.wp_at_succ
/-- The place of a new file. -/
def kpos (n : List UInt8) : List AF → Nat
  | [] => 0
  | x :: r => if bytesBefore x.1 n then kpos n r + 1 else 0
theorem ins_pos {y : AF} : ∀ {L : List AF}, (∀ x ∈ L, x.1 ≠ y.1) → insL y L = L.take (kpos y.1 L) ++ y :: L.drop (kpos y.1 L)
  | [], _ => rfl
  | x :: r, h => by
    have ih := ins_pos (y := y) (L := r) fun z hz => h z (by simp [hz])
    unfold insL kpos
    rcases bytes_total x.1 y.1 with q | q | q
    · rw [if_neg (by rw [bytes_asymm q]; simp), if_pos q, ih]
      simp
    · exact absurd q (h x (by simp))
    · rw [if_pos q, if_neg (by rw [bytes_asymm q]; simp)]
      simp
theorem kpos_drop {n : List UInt8} {L : List AF} {j : Nat} {x : AF} (h : L[j]? = some x) : kpos n (L.drop j) = if bytesBefore x.1 n then kpos n (L.drop (j + 1)) + 1 else 0 := by
  obtain ⟨hj, hx⟩ := List.getElem?_eq_some_iff.1 h
  rw [List.drop_eq_getElem_cons hj, hx]
  rfl
theorem KAt.len {w : World} {q m cap : Nat} {nb : Option Addr} {a : Ab} (h : KAt w q a (.slice nb m cap)) : m = a.L.length := by
  rcases h.shape with ⟨h1, h2⟩ | ⟨g', cap', h1⟩
  · injection h1 with _ h1 _
    rw [h1, h2]; rfl
  · injection h1
theorem less_before : ∀ a b : List UInt8, Op.bytesLess a b = bytesBefore a b
  | [], [] => rfl
  | [], _ :: _ => rfl
  | _ :: _, [] => rfl
  | a :: r, b :: s => by
    have ih := less_before r s
    show (decide (a < b) || (a == b && Op.bytesLess r s)) = (decide (a < b) || (a == b && bytesBefore r s))
    rw [ih]
theorem less_str (l : List UInt8) (n : ByteArray) : Op.bytesLess l n.toList = bytesBefore l n.data.toList := by rw [less_before, ByteArray.toList_eq]
/-- The state of the search for the place. -/
def PosAt (W : World) (q : Nat) (a : Ab) (v : Value) (n b : ByteArray) (s : Nat) (j : Nat) (w : World) : Prop :=
  KAt w q a v ∧ Box w W.heap.size 120 #[.string n, .string b, .int .i64 (s : Int)] ∧ Below W.heap.size W w ∧ j + kpos n.data.toList (a.L.drop j) = kpos n.data.toList a.L ∧ j ≤ a.L.length
theorem PosAt.drew {W w : World} {q : Nat} {a : Ab} {v : Value} {n b : ByteArray} {s j : Nat} (h : PosAt W q a v n b s j w) : PosAt W q a v n b s j w.drew :=
  ⟨h.1.later (Below.refl _ _).drew, h.2.1, h.2.2.1.drew, h.2.2.2.1, h.2.2.2.2⟩
theorem below_dn {B : Nat} {w w' : World} (h : Below B w w') (m : Nat) : Below B w (w'.drewN m) := ⟨h.os, h.tape, h.output, h.size, h.block⟩
theorem kput_end {W w : World} {q : Nat} {a : Ab} {S : Nat → Prop} {v v3 : Value} {y : AF} {m : Nat} (hq : S q) (hqW : q < W.heap.size) (hB : Box w q 34 #[.int .i64 a.room, v, .int .i64 (fuseOf a)]) (ho : Off S W w)
    (hm : m = a.L.length + 1) (hown : w.ownsRow W.heap.size 120 3 v3 m (fileCells (insL y a.L))) :
    KDoes W q S (.tuple #[]) { a with L := insL y a.L } (.returned (.tuple #[])) (w.setCell ⟨q, 1, none⟩ v3) := by
  refine ⟨rfl, ⟨v3, ⟨hB.set 1 v3, ?_⟩, .inl hq, fun j hj => .inr (hown.lt j hj).1⟩, ho.set (.inl hq) v3⟩
  have h3 := own_off (own_base hown (Nat.zero_le _)) (Off.one w ⟨q, 1, none⟩ v3) (fun j hj e => by
    have h1 := (hown.lt j hj).1
    have e' : j = q := e
    omega)
  have e1 : (insL y a.L).length = m := by rw [insL_len, hm]
  show World.ownsRow _ 0 120 3 v3 (insL y a.L).length (fileCells (insL y a.L))
  rw [e1]
  exact h3
theorem three_new (w : World) (x y z : Value) (t : TypeId) : ∀ j u, [x, y, z][j]? = some u → (w.alloc (.cells #[x, y, z] t)).cell? ((⟨w.heap.size, 0, none⟩ : Addr).add j) = some u := by
  intro j u hj
  rw [addr_at, Nat.zero_add]
  have hb := (Box.new w t #[x, y, z]).cell j
  rw [hb]
  simpa using hj
theorem PosAt.drewN {W w : World} {q : Nat} {a : Ab} {v : Value} {n b : ByteArray} {s j : Nat} (h : PosAt W q a v n b s j w) (m : Nat) : PosAt W q a v n b s j (w.drewN m) :=
  ⟨h.1.later (below_dn (Below.refl _ _) m), h.2.1, below_dn h.2.2.1 m, h.2.2.2.1, h.2.2.2.2⟩
set_option maxHeartbeats 8000000 in
set_option maxRecDepth 100000 in
theorem kput_some (q : Nat) (a : Ab) (S : Nat → Prop) (W : World) (g cap : Nat) (h : KAt W q a (.slice (some ⟨g, 0, none⟩) a.L.length cap)) (hq : S q) (hvS : ∀ k, (Value.slice (some ⟨g, 0, none⟩) a.L.length cap).ownBlock = some k → S k) (hlen : a.L.length ≤ 1000000) (n b : ByteArray) (s : Nat) (hnew : ∀ x ∈ a.L, x.1 ≠ n.data.toList) :
    Calls Tryz.prog 72 #[dp q, .agg #[.string n, .string b, .int .i64 (s : Int)]] W (KDoes W q S (.tuple #[]) { a with L := insL (n.data.toList, b.data.toList, s) a.L }) := by
  have hcap : a.L.length ≤ cap ∧ cap ≤ maxLen := by
    rcases h.row.2 with ⟨h1, _⟩ | ⟨g', cap', cur, h1, _, _, h3, h4, _⟩
    · cases h1
    · injection h1 with _ _ h1
      subst h1
      exact ⟨h3, h4⟩
  have hqW := h.box.lt
  have hgW : g < W.heap.size := (h.row.lt g rfl).2
  obtain ⟨i0, hinf, hz⟩ := Option.map_eq_some_iff.1 infoFile
  simp only [Prod.mk.injEq] at hz
  obtain ⟨hz0, hz1, hz2⟩ := hz
  have hb0 : Below W.heap.size W (W.alloc (.cells #[.string n, .string b, .int .i64 (s : Int)] 120)) := (Below.refl _ W).alloc (Nat.le_refl _) _
  have ST := Lib.hid (show PosAt W q a (.slice (some ⟨g, 0, none⟩) a.L.length cap) n b s 0 (W.alloc (.cells #[.string n, .string b, .int .i64 (s : Int)] 120)) from ⟨h.later hb0, Box.new _ _ _, hb0, by rw [List.drop_zero, Nat.zero_add], Nat.zero_le _⟩)
  unfold dp
  go_enter Tryz.func72, Tryz.ntmps72
  go_wp2_with fail
  go_loopw [4] (fun i wr => ∃ j : Nat, i = .int .i64 j ∧ PosAt W q a (.slice (some ⟨g, 0, none⟩) a.L.length cap) n b s j wr) (fun i _ => a.L.length - (intOf i).toNat)
  case atStart => exact ⟨0, rfl, ST.out⟩
  case round =>
    obtain ⟨j, rfl, hP⟩ := hrel
    have hP0 := hP
    obtain ⟨hK, hB, hbw, hpos, hj⟩ := hP
    have y1 : wr.cell? ⟨q, 1, none⟩ = some (.slice (some ⟨g, 0, none⟩) a.L.length cap) := (hK.box.cell 1).trans rfl
    have b0 : wr.cell? ⟨W.heap.size, 0, none⟩ = some (.string n) := (hB.cell 0).trans rfl
    by_cases hgo : ∃ x, a.L[j]? = some x ∧ bytesBefore x.1 n.data.toList = true
    · obtain ⟨x, hx, hlx⟩ := hgo
      have hjl : j < a.L.length := (List.getElem?_eq_some_iff.1 hx).1
      obtain ⟨g', hg', c0, c1, c2, c3⟩ := hK.file hx
      have hgg : g = g' := by injection hg' with e; injection e with e
      subst hgg
      clear hg'
      have hji : (j : Int) < (a.L.length : Int) := by omega
      have hls : Op.bytesLess x.1 n.toList = true := by rw [less_str]; exact hlx
      rw [kpos_drop hx, if_pos hlx] at hpos
      have HN := Lib.hid (show PosAt W q a (.slice (some ⟨g, 0, none⟩) a.L.length cap) n b s (j + 1) wr.drew from ⟨hK.later (Below.refl _ _).drew, hB, hbw.drew, by omega, hjl⟩)
      clear hK hB hbw hpos
      go_wp2_with fail
      go_region_held3 (fun w => w.cell? ⟨q, 1, none⟩ = some (.slice (some ⟨g, 0, none⟩) a.L.length cap) ∧ w.cell? ⟨g, j * 3, none⟩ = some (.string ⟨x.1.toArray⟩) ∧ w.cell? ⟨W.heap.size, 0, none⟩ = some (.string n)) (exact ⟨y1, c0, b0⟩) (fail)
      go_wp2_with fail
      go_roundw
      case rel => exact ⟨j + 1, by go_num, HN.out⟩
      case measure => simp [intOf]; omega
    · have hkj : kpos n.data.toList a.L = j := by
        rcases Nat.lt_or_ge j a.L.length with hjl | hjl
        · obtain ⟨x, hx⟩ : ∃ x, a.L[j]? = some x := ⟨_, List.getElem?_eq_getElem hjl⟩
          rw [kpos_drop hx, if_neg (fun e => hgo ⟨x, hx, e⟩)] at hpos
          omega
        · rw [List.drop_eq_nil_iff.2 hjl] at hpos
          have : kpos n.data.toList [] = 0 := rfl
          omega
      have hins : insL (n.data.toList, b.data.toList, s) a.L = a.L.take j ++ (n.data.toList, b.data.toList, s) :: a.L.drop j := by rw [← hkj]; exact ins_pos hnew
      have HI := Lib.hid hins
      have HPd := Lib.hid (fun m => hP0.drewN m)
      rcases Nat.lt_or_ge j a.L.length with hjl | hjl
      case' inl =>
        obtain ⟨x, hx⟩ : ∃ x, a.L[j]? = some x := ⟨_, List.getElem?_eq_getElem hjl⟩
        obtain ⟨g', hg', c0, c1, c2, c3⟩ := hK.file hx
        have hgg : g = g' := by injection hg' with e; injection e with e
        subst hgg
        clear hg'
        have hji : (j : Int) < (a.L.length : Int) := by omega
        have hls : Op.bytesLess x.1 n.toList = false := by
          rw [less_str]
          cases hq2 : bytesBefore x.1 n.data.toList with
          | false => rfl
          | true => exact absurd ⟨x, hx, hq2⟩ hgo
        clear hK hB hbw hpos hgo hins hP0
        go_wp2_with fail
        go_quiet (fail)
      case' inr =>
        have hje : ¬ j < a.L.length := by omega
        clear hK hB hbw hpos hgo hins hP0
        have hd1 : decide (j < a.L.length) = false := decide_eq_false hje
        have hd2 : decide ((j : Int) < (a.L.length : Int)) = false := decide_eq_false (by omega)
        go_wp2_with fail
        go_quiet (fail)
      all_goals
        have hPd := HPd.out nq
        generalize wr.drewN nq = w2 at hPd ⊢
        obtain ⟨hK2, hB2, hbw2, _, hj2⟩ := hPd
        have y1' : w2.cell? ⟨q, 1, none⟩ = some (.slice (some ⟨g, 0, none⟩) a.L.length cap) := (hK2.box.cell 1).trans rfl
        have hji0 : (0 : Int) ≤ (j : Int) := by omega
        have hjic : (j : Int) ≤ (cap : Int) := by omega
        obtain ⟨p1, p2⟩ := piece_cells hK2 0 j (by omega)
        obtain ⟨p3, p4⟩ := piece_cells hK2 j (a.L.length - j) (by omega)
        rw [List.drop_zero] at p1 p2
        rw [show ((a.L.drop j).take (a.L.length - j)) = a.L.drop j by rw [List.take_of_length_le]; rw [List.length_drop]; omega] at p3 p4
        rw [Nat.zero_mul] at p2
        have hW2 := hbw2.size
        have HK2 := Lib.hid hK2
        have HB2 := Lib.hid hB2
        have HBW2 := Lib.hid hbw2
        clear hK2 hB2 hbw2 y1 b0
        go_wp2_with (at_builtin; refine wpList_append_own_at _ rfl _ _ 32 rfl W.heap.size 120 i0 _ 3 40 Tryz.underlying32 hinf hz0 hz1 hz2 rfl (by decide) (.slice none 0 0) 0 [] rfl (World.ownsRow_nil _ _ _ _) ⟨g, 0, none⟩ j cap (fileCells (a.L.take j)) rfl p1 p2 cells_one (by unfold maxLen; omega) (by omega) hW2 ?_)
        intro v1 w3 hown3 hgrow3 hnil3 hlies3
        obtain ⟨ao3, n3, cap3, rfl⟩ := own_sl hown3
        have hb3 : Below w2.heap.size w2 w3 := (Below.refl _ w2).grown hgrow3 (Nat.le_refl _) (fun k e => by cases e)
        have hbx3 := HB2.out.later hb3
        have fb0 : w3.cell? ⟨W.heap.size, 0, none⟩ = some (.string n) := (hbx3.cell 0).trans rfl
        have fb1 : w3.cell? ⟨W.heap.size, 1, none⟩ = some (.string b) := (hbx3.cell 1).trans rfl
        have fb2 : w3.cell? ⟨W.heap.size, 2, none⟩ = some (.int .i64 (s : Int)) := (hbx3.cell 2).trans rfl
        clear hbx3 y1'
        go_wp2_with (at_builtin; refine wpList_append_own_at _ rfl _ _ 32 rfl W.heap.size 120 i0 _ 3 40 Tryz.underlying32 hinf hz0 hz1 hz2 rfl (by decide) (.slice ao3 n3 cap3) j _ rfl (hown3.alloc _) ⟨w3.heap.size, 0, none⟩ 1 1 [.string n, .string b, .int .i64 (s : Int)] rfl rfl (three_new _ _ _ _ _) (by intro u hu; simp at hu; rcases hu with rfl | rfl | rfl <;> rfl) (by unfold maxLen; omega) (by omega) (by have := hb3.size; simp; omega) ?_)
        intro v2 w4 hown4 hgrow4 hnil4 hlies4
        obtain ⟨ao4, n4, cap4, rfl⟩ := own_sl hown4
        have o24 : Off (fun k => W.heap.size ≤ k) w2 w4 := (((Off.refl (fun k => W.heap.size ≤ k) w2).later hb3).alloc _).grown hgrow4 (fun k hk _ => (hown3.lt k hk).1)
        have hK4 := HK2.out.off o24 (by omega) (fun k hk e => by
          have : g = k := by simpa [Value.ownBlock] using hk
          omega)
        have y4 : w4.cell? ⟨q, 1, none⟩ = some (.slice (some ⟨g, 0, none⟩) a.L.length cap) := (hK4.box.cell 1).trans rfl
        obtain ⟨p5, p6⟩ := piece_cells hK4 j (a.L.length - j) (by omega)
        rw [show ((a.L.drop j).take (a.L.length - j)) = a.L.drop j by rw [List.take_of_length_le]; rw [List.length_drop]; omega] at p5 p6
        have hs4 : W.heap.size ≤ w4.heap.size := by have := o24.size; omega
        have hfin : ∀ (v5 : Value) (w5 : World), w5.ownsRow W.heap.size 120 3 v5 (j + 1 + (a.L.length - j)) (fileCells (a.L.take j) ++ [.string n, .string b, .int .i64 (s : Int)] ++ fileCells (a.L.drop j)) → w4.grownBy w5 (Value.slice ao4 n4 cap4).ownBlock →
            w5.cell? ⟨q, 1, none⟩ = some (.slice (some ⟨g, 0, none⟩) a.L.length cap) ∧ w5.frozen? ⟨q, 1, none⟩ = false ∧ KDoes W q S (.tuple #[]) { a with L := insL (n.data.toList, b.data.toList, s) a.L } (.returned (.tuple #[])) (w5.setCell ⟨q, 1, none⟩ v5) := by
          intro v5 w5 hown5 hgrow5
          have hb5 := box_row hK4.box hgrow5 (fun k hk e => by
            have h1 := (hown4.lt k hk).1
            omega)
          have o25 : Off S W w5 := ((Off.of_below S HBW2.out).trans o24 (fun k hk hx => absurd hx (by omega))).grown hgrow5 (fun k hk hlt => absurd (hown4.lt k hk).1 (by omega))
          refine ⟨(hb5.cell 1).trans rfl, hb5.frozen 1, kput_end hq hqW hb5 o25 (m := j + 1 + (a.L.length - j)) (by omega) ?_⟩
          rw [HI.out, fileCells_app, show fileCells ((n.data.toList, b.data.toList, s) :: a.L.drop j) = [.string n, .string b, .int .i64 (s : Int)] ++ fileCells (a.L.drop j) from rfl, ← List.append_assoc]
          exact hown5
        have HF := Lib.hid hfin
        clear hfin p1 p2 p3 p4 fb0 fb1 fb2 hown3 hgrow4 hgrow3 hlies3 hnil3 hlies4 hnil4
        rcases Nat.lt_or_ge j a.L.length with hj3 | hj3
        · try (exfalso; omega)
          all_goals
            have hjc3 : j < cap := by omega
            have hkn : ¬ cap - j = 0 := by omega
            have hkn2 : ¬ cap = j := by omega
            have hkn3 : ¬ j = cap := by omega
            have hkn4 : ¬ cap ≤ j := by omega
            go_wp2_with (at_builtin; refine wpList_append_own_at _ rfl _ _ 32 rfl W.heap.size 120 i0 _ 3 40 Tryz.underlying32 hinf hz0 hz1 hz2 rfl (by decide) (.slice ao4 n4 cap4) (j + 1) _ rfl hown4 ⟨g, j * 3, none⟩ (a.L.length - j) (cap - j) (fileCells (a.L.drop j)) rfl p5 p6 cells_one (by unfold maxLen; omega) (by omega) hs4 ?_)
            intro v5 w5 hown5 hgrow5 hnil5 hlies5
            obtain ⟨ao5, n5, cap5, rfl⟩ := own_sl hown5
            obtain ⟨f1, f2, f3⟩ := HF.out _ w5 (by simpa using hown5) hgrow5
            have F3 := Lib.hid f3
            clear f3 hown5 hgrow5 hnil5 hlies5
            go_wp2
            go_end0
            exact F3.out
        · try (exfalso; omega)
          all_goals
            obtain rfl : j = a.L.length := by omega
            have hd0 : a.L.drop a.L.length = [] := List.drop_length
            have HE := Lib.hid hd0
            clear hd0 p5 p6
            rcases Nat.lt_or_ge a.L.length cap with hkc | hkc
            · have hkn : ¬ cap - a.L.length = 0 := by omega
              have hkn2 : ¬ cap = a.L.length := by omega
              have hkn3 : ¬ a.L.length = cap := by omega
              have hkn4 : ¬ cap ≤ a.L.length := by omega
              go_wp2_with (at_builtin; refine wpList_append_own_at _ rfl _ _ 32 rfl W.heap.size 120 i0 _ 3 40 Tryz.underlying32 hinf hz0 hz1 hz2 rfl (by decide) (.slice ao4 n4 cap4) (a.L.length + 1) _ rfl hown4 ⟨g, a.L.length * 3, none⟩ 0 (cap - a.L.length) [] rfl rfl (fun j u hu => by simp at hu) (fun u hu => by simp at hu) (by unfold maxLen; omega) (by omega) hs4 ?_)
              intro v5 w5 hown5 hgrow5 hnil5 hlies5
              obtain ⟨ao5, n5, cap5, rfl⟩ := own_sl hown5
              obtain ⟨f1, f2, f3⟩ := HF.out _ w5 (by rw [HE.out]; simpa [show fileCells [] = [] from rfl] using hown5) hgrow5
              have F3 := Lib.hid f3
              clear f3 hown5 hgrow5 hnil5 hlies5
              go_wp2
              go_end0
              exact F3.out
            · obtain rfl : cap = a.L.length := by omega
              go_wp2_with (at_builtin; refine wpList_append_own_at _ rfl _ _ 32 rfl W.heap.size 120 i0 _ 3 40 Tryz.underlying32 hinf hz0 hz1 hz2 rfl (by decide) (.slice ao4 n4 cap4) (a.L.length + 1) _ rfl hown4 ⟨g, 0, none⟩ 0 0 [] rfl rfl (fun j u hu => by simp at hu) (fun u hu => by simp at hu) (by unfold maxLen; omega) (by omega) hs4 ?_)
              intro v5 w5 hown5 hgrow5 hnil5 hlies5
              obtain ⟨ao5, n5, cap5, rfl⟩ := own_sl hown5
              obtain ⟨f1, f2, f3⟩ := HF.out _ w5 (by rw [HE.out]; simpa [show fileCells [] = [] from rfl] using hown5) hgrow5
              have F3 := Lib.hid f3
              clear f3 hown5 hgrow5 hnil5 hlies5
              go_wp2
              go_end0
              exact F3.out
set_option maxHeartbeats 8000000 in
set_option maxRecDepth 100000 in
theorem kput_nil (q : Nat) (a : Ab) (S : Nat → Prop) (W : World) (h : KAt W q a (.slice none 0 0)) (hL : a.L = []) (hq : S q) (n b : ByteArray) (s : Nat) :
    Calls Tryz.prog 72 #[dp q, .agg #[.string n, .string b, .int .i64 (s : Int)]] W (KDoes W q S (.tuple #[]) { a with L := insL (n.data.toList, b.data.toList, s) a.L }) := by
  have hqW := h.box.lt
  obtain ⟨i0, hinf, hz⟩ := Option.map_eq_some_iff.1 infoFile
  simp only [Prod.mk.injEq] at hz
  obtain ⟨hz0, hz1, hz2⟩ := hz
  have hb0 : Below W.heap.size W (W.alloc (.cells #[.string n, .string b, .int .i64 (s : Int)] 120)) := (Below.refl _ W).alloc (Nat.le_refl _) _
  have B1 := Lib.hid (And.intro hb0 (And.intro (h.later hb0) (Box.new W 120 #[.string n, .string b, .int .i64 (s : Int)])))
  clear hb0 h
  unfold dp
  go_enter Tryz.func72, Tryz.ntmps72
  go_wp2_with fail
  generalize (W.alloc (.cells #[.string n, .string b, .int .i64 (s : Int)] 120)) = W0 at *
  go_loopw [4] (fun i wr => i = .int .i64 0 ∧ W0 = wr) (fun _ _ => 0)
  case atStart => exact ⟨rfl, rfl⟩
  case round =>
    obtain ⟨rfl, hw⟩ := hrel
    subst hw
    have y1 : W0.cell? ⟨q, 1, none⟩ = some (.slice none 0 0) := (B1.out.2.1.box.cell 1).trans rfl
    have hd : decide ((0 : Int) < (0 : Int)) = false := rfl
    go_wp2_with fail
    go_quiet (fail)
    have hK2 := B1.out.2.1.later (below_dn (Below.refl _ W0) nq)
    have hB2 : Box (W0.drewN nq) W.heap.size 120 #[.string n, .string b, .int .i64 (s : Int)] := B1.out.2.2
    have hbw2 := below_dn B1.out.1 nq
    generalize W0.drewN nq = w2 at hK2 hB2 hbw2 ⊢
    have y1' : w2.cell? ⟨q, 1, none⟩ = some (.slice none 0 0) := (hK2.box.cell 1).trans rfl
    have fb0 : w2.cell? ⟨W.heap.size, 0, none⟩ = some (.string n) := (hB2.cell 0).trans rfl
    have fb1 : w2.cell? ⟨W.heap.size, 1, none⟩ = some (.string b) := (hB2.cell 1).trans rfl
    have fb2 : w2.cell? ⟨W.heap.size, 2, none⟩ = some (.int .i64 (s : Int)) := (hB2.cell 2).trans rfl
    have hs2 := hbw2.size
    have HK2 := Lib.hid hK2
    have HBW2 := Lib.hid hbw2
    clear hK2 hB2 hbw2 y1
    go_wp2_with (at_builtin; refine wpList_append_own_at _ rfl _ _ 32 rfl W.heap.size 120 i0 _ 3 40 Tryz.underlying32 hinf hz0 hz1 hz2 rfl (by decide) (.slice none 0 0) 0 [] rfl (World.ownsRow_nil _ _ _ _) ⟨w2.heap.size, 0, none⟩ 1 1 [.string n, .string b, .int .i64 (s : Int)] rfl rfl (three_new _ _ _ _ _) (by intro u hu; simp at hu; rcases hu with rfl | rfl | rfl <;> rfl) (by unfold maxLen; omega) (by omega) (by simp; omega) ?_)
    intro v2 w4 hown4 hgrow4 hnil4 hlies4
    have o24 : Off (fun k => W.heap.size ≤ k) w2 w4 := ((Off.refl (fun k => W.heap.size ≤ k) w2).alloc _).grown hgrow4 (fun k hk _ => by cases hk)
    have hK4 := HK2.out.off o24 (by omega) (fun k hk e => by cases hk)
    have y4 : w4.cell? ⟨q, 1, none⟩ = some (.slice none 0 0) := (hK4.box.cell 1).trans rfl
    have z4 : w4.frozen? ⟨q, 1, none⟩ = false := hK4.box.frozen 1
    obtain ⟨g4, cap4, rfl, hc4⟩ : ∃ g4 cap4, v2 = .slice (some ⟨g4, 0, none⟩) 1 cap4 ∧ 1 ≤ cap4 := by
      rcases hown4.2 with ⟨_, h0⟩ | ⟨g, cap, cur, hv, _, _, h3, _⟩
      · omega
      · exact ⟨g, cap, hv, h3⟩
    have hend := kput_end (y := (n.data.toList, b.data.toList, s)) hq hqW hK4.box ((Off.of_below S HBW2.out).trans o24 (fun k hk hx => absurd hx (by omega))) (m := 1) (by rw [hL]; rfl) (v3 := .slice (some ⟨g4, 0, none⟩) 1 cap4) (by rw [hL]; simpa [insL, fileCells, fC] using hown4)
    have HE := Lib.hid hend
    clear hend hown4 hgrow4 hK4 hnil4 hlies4 fb0 fb1 fb2 y1'
    go_wp2
    go_end0
    exact HE.out
theorem kput_c (q : Nat) (a : Ab) (S : Nat → Prop) (W : World) (h : KIs W q a S) (hlen : a.L.length ≤ 1000000) (n b : ByteArray) (s : Nat) (hnew : ∀ x ∈ a.L, x.1 ≠ n.data.toList) :
    Calls Tryz.prog 72 #[dp q, .agg #[.string n, .string b, .int .i64 (s : Int)]] W (KDoes W q S (.tuple #[]) { a with L := insL (n.data.toList, b.data.toList, s) a.L }) := by
  obtain ⟨v, h, hq, hvS⟩ := h
  rcases h.shape with ⟨rfl, h2⟩ | ⟨g, cap, rfl⟩
  · exact kput_nil q a S W h h2 hq n b s
  · exact kput_some q a S W g cap h hq hvS hlen n b s hnew
end Go.Proofs.YtjnphajkoopkgaaGreatDoor.Dk.Kd
