/- Rename: what it leaves. No condition. -/
import Derived.Test.YtpdimmkacjilgaaDkFz
namespace Go.Proofs.Ytpdimmkacjilgaa
open Go.RowKit Go.Maps Go.ChangeMaps Go.WideMaps Go.MapKept
set_option linter.unusedVariables false
attribute [local go_sem ↓] Go.wp_at_zero Go.wp_at_succ
theorem minus_none {F : List DF} {n : List UInt8} (h : fileOf F n = none) : minus F n = F := none_filter h
theorem minus_gone (F : List DF) (n : List UInt8) : fileOf (minus F n) n = none := by
  unfold fileOf minus
  rw [List.find?_eq_none]
  intro f hf
  have := (List.mem_filter.1 hf).2
  simpa using this
theorem minus_keep {F : List DF} {n k : List UInt8} (hne : n ≠ k) : fileOf (minus F n) k = fileOf F k := by
  unfold fileOf minus
  induction F with
  | nil => rfl
  | cons x F ih =>
    rw [List.filter_cons]
    by_cases hx : (x.name == n) = true
    · rw [hx]
      simp only [Bool.not_true, Bool.false_eq_true, if_false]
      rw [List.find?_cons, ih]
      have : (x.name == k) = false := by
        have e : x.name = n := by simpa using hx
        rw [e, beq_eq_false_iff_ne]
        exact hne
      rw [this]
    · have hx' : (x.name == n) = false := by simpa using hx
      rw [hx']
      simp only [Bool.not_false, if_true]
      rw [List.find?_cons, List.find?_cons, ih]
/-- lose, whether the file is there or not. -/
theorem lose_any (p : Nat) (d : DS) (W : World) (n : ByteArray) (hn : n.size ≤ maxLen) (h : Rep W p d) :
    Calls Try.prog 45 #[dp p, .string n] W (Gives W p d (.tuple #[]) fun d' => d' = { d with used := d.used - ((total d.F : Int) - (total (minus d.F n.data.toList) : Int)), F := minus d.F n.data.toList }) := by
  cases hf : fileOf d.F n.data.toList with
  | none =>
    refine (lose_none p d W n hn h hf).mono ?_
    rintro e w' ⟨rfl, rfl⟩
    refine ⟨rfl, d, h, ?_, Off.refl _ _, fun k hk => .inl hk⟩
    rw [minus_none hf]
    have : d.used - ((total d.F : Int) - (total d.F : Int)) = d.used := by omega
    rw [this]
  | some f =>
    refine (lose_some p d W n hn h f hf).mono ?_
    rintro e w' ⟨rfl, d', R, rfl, o, ft⟩
    obtain ⟨h1, h2⟩ := file_in hf
    refine ⟨rfl, _, R, ?_, o, ft⟩
    have ht := total_lost h.sorted h1
    unfold loseD
    rw [← h2]
    have : d.used - (f.bytes.length : Int) = d.used - ((total d.F : Int) - (total (minus d.F f.name) : Int)) := by omega
    rw [this]
def moveF (f : DF) (n : List UInt8) : DF := ⟨n, f.blk, f.v, f.bytes, f.safe⟩
theorem rename_bad (p : Nat) (d : DS) (o n : ByteArray) (ho : o.size ≤ maxLen) (hn : n.size ≤ 140737488351232) (W : World) (h : Rep W p d) (hd : upB d = true) (f : DF) (hf : fileOf d.F o.data.toList = some f) (hnm : nameB n = false) :
    Calls Try.prog 18 #[dp p, .string o, .string n] W (Tells W (.int .i64 1)) := by
  have hu := find_some p d o ho W h hd f hf
  have hn0 := nameable_c n hn W
  rw [hnm] at hn0
  clear h hd hnm
  unfold dp at *
  go_enter Try.func18, Try.ntmps18
  go_wp2_with fail
  (with_reducible refine hu.mono ?_)
  rintro en w1 ⟨rfl, hw⟩
  have hw' := hw.symm
  subst hw'
  go_wp2_with fail
  (with_reducible refine hn0.mono ?_)
  rintro en w1 ⟨rfl, rfl⟩
  go_wp2
  go_ret
  exact ⟨rfl, rfl⟩
theorem rename_none (p : Nat) (d : DS) (o n : ByteArray) (ho : o.size ≤ maxLen) (W : World) (h : Rep W p d) (hd : upB d = true) (hf : fileOf d.F o.data.toList = none) :
    Calls Try.prog 18 #[dp p, .string o, .string n] W (Tells W (.int .i64 6)) := by
  have hu := find_none p d o ho W h hd hf
  clear h hd
  unfold dp at *
  go_enter Try.func18, Try.ntmps18
  go_wp2_with fail
  (with_reducible refine hu.mono ?_)
  rintro en w1 ⟨rfl, rfl⟩
  go_wp2
  go_ret
  exact ⟨rfl, rfl⟩
theorem rename_down (p : Nat) (d : DS) (o n : ByteArray) (W : World) (h : Rep W p d) (hd : upB d = false) :
    Calls Try.prog 18 #[dp p, .string o, .string n] W (Tells W (.int .i64 7)) := by
  have hu := find_down p d o W h hd
  clear h hd
  unfold dp at *
  go_enter Try.func18, Try.ntmps18
  go_wp2_with fail
  (with_reducible refine hu.mono ?_)
  rintro en w1 ⟨rfl, rfl⟩
  go_wp2
  go_ret
  exact ⟨rfl, rfl⟩
theorem rename_same (p : Nat) (d : DS) (o : ByteArray) (ho : o.size ≤ 140737488351232) (W : World) (h : Rep W p d) (hd : upB d = true) (f : DF) (hf : fileOf d.F o.data.toList = some f) (hnm : nameB o = true) :
    Calls Try.prog 18 #[dp p, .string o, .string o] W (Turns W p (chg d) (.int .i64 0)) := by
  have hu := find_some p d o (by unfold maxLen; omega) W h hd f hf
  have hn0 := nameable_c o ho W
  rw [hnm] at hn0
  have hc := changed_c p d W h hd
  clear h hd hnm
  unfold dp at *
  go_enter Try.func18, Try.ntmps18
  go_wp2_with fail
  (with_reducible refine hu.mono ?_)
  rintro en w1 ⟨rfl, hw⟩
  have hw' := hw.symm
  subst hw'
  go_wp2_with fail
  (with_reducible refine hn0.mono ?_)
  rintro en w1 ⟨rfl, hw⟩
  have hw' := hw.symm
  subst hw'
  go_wp2_with fail
  (with_reducible refine hc.mono ?_)
  rintro en w1 ⟨rfl, hq⟩
  go_wp2
  go_ret
  exact ⟨rfl, hq⟩
set_option maxHeartbeats 4000000 in
set_option maxRecDepth 100000 in
theorem rename_some (p : Nat) (d : DS) (o n : ByteArray) (ho : o.size ≤ maxLen) (W : World) (h : Rep W p d) (hd : upB d = true) (f : DF) (hf : fileOf d.F o.data.toList = some f) (hnm : nameB n = true) (hne : n ≠ o) (hlen : d.F.length ≤ 1000000) :
    Calls Try.prog 18 #[dp p, .string o, .string n] W (Gives W p d (.int .i64 0) fun d' => d'.room = d.room ∧ d'.fused = d.fused ∧ d'.left = (chg d).left ∧ d'.used = d.used - ((total d.F : Int) - (total (minus d.F n.data.toList) : Int)) ∧ d'.F = insF (moveF f n.data.toList) (minus (minus d.F n.data.toList) o.data.toList)) := by
  have hn40 : 1 ≤ n.size ∧ n.size ≤ 40 := by unfold nameB at hnm; simp at hnm; omega
  have hu := find_some p d o ho W h hd f hf
  have hn0 := nameable_c n (by omega) W
  rw [hnm] at hn0
  have hlo := lose_any p d W n (by unfold maxLen; omega) h
  have hno : n.data.toList ≠ o.data.toList := fun e => hne (by
    have e2 : n.data = o.data := Array.toList_inj.1 e
    exact ByteArray.ext e2)
  have hnt := str_ne hne
  unfold dp at *
  go_enter Try.func18, Try.ntmps18
  go_wp2_with fail
  (with_reducible refine hu.mono ?_)
  rintro en w1 ⟨rfl, hw⟩
  have hw' := hw.symm
  subst hw'
  go_wp2_with fail
  (with_reducible refine hn0.mono ?_)
  rintro en w1 ⟨rfl, hw⟩
  have hw' := hw.symm
  subst hw'
  go_wp2_with fail
  (with_reducible refine hlo.mono ?_)
  rintro en w2 ⟨rfl, d2, R2, hd2, o2, f2⟩
  have hF2 : d2.F = minus d.F n.data.toList := by rw [hd2]
  have hfo2 : fileOf d2.F o.data.toList = some f := by rw [hF2, minus_keep hno]; exact hf
  obtain ⟨hm2, hn2⟩ := file_in hfo2
  obtain ⟨y0, y1, y2, y3, y4⟩ := R2.at
  obtain ⟨m, hm, hown⟩ : ∃ m, d2.map = some m ∧ w2.ownsMap Try.prog 9 fileTok m d2.F.length (mapD d2.F) := by
    rcases R2.map with ⟨_, h2⟩ | hx
    · rw [h2] at hm2; cases hm2
    · exact hx
  rw [hm] at y2
  have R2' := Lib.hid R2
  have O2 := Lib.hid o2
  have F2 := Lib.hid f2
  have HD2 := Lib.hid hd2
  clear o2 f2 hd2 R2 hu hn0 hlo
  go_wp2_with (at_delete; refine wpList_delete_own _ rfl _ _ 57 9 rfl 64 (string_keyed Try.underlying9) Try.underlying57 fileTok m d2.F.length (mapD d2.F) rfl hown _ _ rfl (keyOf_string_mk Try.underlying9 ho) ?_; intro w3 hown3 hturn3)
  rw [mapD_del] at hown3
  have hgr : Off (fun j => j = m) w2 w3 := by
    obtain ⟨es, clock, es', clock', hb, rfl⟩ := hturn3
    exact ⟨rfl, rfl, rfl, by simp [setBlock], fun i _ hi => heap_setBlock_other hb _ (fun e => hi e)⟩
  have R2 := R2'.out
  have hmp : m ≠ p := (R2.apart).1 m hm
  have hmf := R2.mapapart hm hm2
  have hbx : Box w3 p 59 (dkC { d2 with F := minus d2.F o.data.toList }) := R2.box.off hgr (fun e => hmp e.symm)
  have hu2 := R2.used
  have htl : total (minus d2.F o.data.toList) + f.bytes.length = total d2.F := by rw [← hn2]; exact total_lost R2.sorted hm2
  have R3 : Rep w3 p { d2 with F := minus d2.F o.data.toList } := R2.sub List.filter_sublist rfl hbx (hgr.mono fun j _ hj => .inr (by rw [hj]; exact hm)) (fun m' hm' => by
    have : m' = m := by rw [hm] at hm'; injection hm' with e; exact e.symm
    subst this
    exact ⟨_, hown3⟩) R2.room ⟨by show (total (minus d2.F o.data.toList) : Int) ≤ d2.used; omega, hu2.2⟩ R2.left
  have fi2 := R2.files f hm2
  have hfi : FileIn w3 (moveF f n.data.toList) := by
    have q := fi2.off hgr (fun e => hmf.1 e.symm) (fun k hk e => hmf.2 k hk e)
    exact ⟨q.box, q.row, q.safe, hn40⟩
  have hnew : fileOf (minus d2.F o.data.toList) n.data.toList = none := by
    rw [minus_keep (fun e => hno e.symm), hF2]
    exact minus_gone _ _
  have hput : Calls Try.prog 39 #[.pointer (some ⟨p, 0, none⟩), .string n, .pointer (some ⟨f.blk, 0, none⟩)] w3 (Puts w3 p { d2 with F := minus d2.F o.data.toList } (moveF f n.data.toList)) :=
    put_c p _ w3 n (moveF f n.data.toList) R3 rfl hnew (by
      have h1 : (minus d2.F o.data.toList).length ≤ d2.F.length := List.length_filter_le _ _
      have h2 : d2.F.length ≤ d.F.length := by rw [hF2]; exact List.length_filter_le _ _
      show (minus d2.F o.data.toList).length ≤ 1000000
      omega) (by omega)
  have hmemF : ∀ g ∈ minus d2.F o.data.toList, g ∈ d2.F ∧ g ≠ f := fun g hg => by
    obtain ⟨q1, q2⟩ := List.mem_filter.1 hg
    refine ⟨q1, fun e => ?_⟩
    rw [e, hn2] at q2
    simp at q2
  have hbl : ∀ g ∈ minus d2.F o.data.toList, g.blk ≠ (moveF f n.data.toList).blk := fun g hg e => by
    obtain ⟨q1, q2⟩ := hmemF g hg
    exact q2 (same_blk R2.blks q1 hm2 e)
  have hrw : ∀ g ∈ minus d2.F o.data.toList, ∀ k, g.v.ownBlock = some k → (moveF f n.data.toList).v.ownBlock ≠ some k := fun g hg k hk => by
    obtain ⟨q1, q2⟩ := hmemF g hg
    exact rows_apart R2.rows q1 hm2 q2 k hk
  have HG := Lib.hid hgr
  clear hgr hturn3 hown3 hown y0 y1 y2 y3 y4 hbx
  go_wp2_with fail
  (with_reducible refine hput.mono ?_)
  rintro en w4 hP
  obtain ⟨m4, rfl, R4, o4, hm4⟩ := R3.put hfi hnew hbl hrw (by
    show (total (minus d2.F o.data.toList) : Int) + (f.bytes.length : Int) ≤ d2.used
    omega) hP
  have hup4 : upB (putD { d2 with F := minus d2.F o.data.toList } m4 (moveF f n.data.toList)) = true := by
    have : upB d2 = upB d := by rw [HD2.out]; rfl
    show upB d2 = true
    rw [this]; exact hd
  have hch := changed_c p _ w4 R4 hup4
  unfold dp at hch
  go_wp2_with fail
  (with_reducible refine hch.mono ?_)
  rintro en w5 ⟨rfl, R5, o5⟩
  go_wp2
  go_ret
  refine ⟨rfl, _, R5, ⟨?_, ?_, ?_, ?_, ?_⟩, ?_, ?_⟩
  · show d2.room = d.room
    rw [HD2.out]
  · show d2.fused = d.fused
    rw [HD2.out]
  · show (if d2.fused = true then d2.left - 1 else d2.left) = (if d.fused = true then d.left - 1 else d.left)
    rw [HD2.out]
  · show d2.used = _
    rw [HD2.out]
  · show insF (moveF f n.data.toList) (minus d2.F o.data.toList) = _
    rw [hF2]
  · have q1 : Off (fun k => k = p ∨ d2.map = some k) w2 w4 := (HG.out.mono fun k _ hk => Or.inr (by rw [hk]; exact hm)).trans o4 fun k _ hk => hk
    have q2 : Off (fun k => k = p ∨ d2.map = some k) w2 w5 := q1.trans o5 fun k _ hk => .inl hk
    refine O2.out.trans q2 fun k hk hx => ?_
    rcases hx with hx | hx
    · exact .inl hx
    · rw [HD2.out] at hx
      exact .inr (.inl hx)
  · intro k hk
    have hsz : W.heap.size ≤ w3.heap.size := by have := O2.out.size; have := HG.out.size; omega
    rcases hk with hk | hk | ⟨g, hg, hk⟩
    · exact .inl (.inl hk)
    · have e : m4 = k := by injection hk
      subst e
      rcases hm4 with h2 | h2
      · have h3 : d2.map = some m4 := h2
        rw [HD2.out] at h3
        exact .inl (.inr (.inl h3))
      · exact .inr (by omega)
    · have hg' : g ∈ insF (moveF f n.data.toList) (minus d2.F o.data.toList) := hg
      rcases insF_mem.1 hg' with rfl | hg2
      · exact F2.out k (.inr (.inr ⟨f, hm2, hk⟩))
      · exact F2.out k (.inr (.inr ⟨g, (hmemF g hg2).1, hk⟩))
/-- Rename, Cut, as the document has them. -/
def renE (a : Ab) (o n : ByteArray) : Int := if upA a then if (findL a.L o.data.toList).isSome then if nameB n then 0 else 1 else 6 else 7
def renA (a : Ab) (o n : ByteArray) : Ab :=
  match upA a, findL a.L o.data.toList, nameB n with
  | true, some x, true => { chgA a with L := if n = o then a.L else insL (n.data.toList, x.2.1, x.2.2) (delL (delL a.L n.data.toList) o.data.toList) }
  | _, _, _ => a
theorem ren_do (p : Nat) (a : Ab) (S : Nat → Prop) (W : World) (o n : ByteArray) (ho : o.size ≤ 140737488351232) (hn : n.size ≤ 140737488351232) (h : Is W p a S) (hlen : a.L.length ≤ 1000000) :
    Calls Try.prog 18 #[dp p, .string o, .string n] W (Does W p S (.int .i64 (renE a o n)) (renA a o n)) := by
  have hI := h
  obtain ⟨d, hR, h1, h2, h3, h4, h5, h6⟩ := h
  have hl : d.F.length ≤ 1000000 := by rw [← h4] at hlen; unfold absL at hlen; simpa using hlen
  have hu := up_abs h2 h3
  have hff := abs_find d.F o.data.toList
  rw [h4] at hff
  have hox : o.size ≤ maxLen := by unfold maxLen; omega
  unfold renE renA
  rw [hu]
  cases hub : upB d with
  | false => exact (rename_down p d o n W hR hub).mono fun _ _ ht => does_tells hI ht
  | true =>
    cases hf : fileOf d.F o.data.toList with
    | none =>
      rw [hf] at hff
      simp only [hff, Option.map_none]
      exact (rename_none p d o n hox W hR hub hf).mono fun _ _ ht => does_tells hI ht
    | some f =>
      rw [hf] at hff
      simp only [hff, Option.map_some]
      cases hnb : nameB n with
      | false => exact (rename_bad p d o n hox hn W hR hub f hf hnb).mono fun _ _ ht => does_tells hI ht
      | true =>
        by_cases hno : n = o
        · subst hno
          simp only [if_true]
          refine (rename_same p d n hn W hR hub f hf hnb).mono ?_
          rintro e w' ⟨rfl, R, o⟩
          exact ⟨rfl, ⟨_, R, h1, h2, chg_left h2 h3, h4, h5, fun k hk => .inl (h6 k hk)⟩, o.mono fun k _ hk => h6 k (.inl hk)⟩
        · simp only [if_neg hno]
          refine (rename_some p d o n hox W hR hub f hf hnb hno hl).mono fun _ _ hg => does_gives h6 hg ?_
          rintro d' hR' ⟨q1, q2, q3, q4, q5⟩
          obtain ⟨hf1, hf2⟩ := file_in hf
          refine ⟨q1.trans h1, q2.trans h2, q3.trans (chg_left h2 h3), ?_, ?_⟩
          · rw [q5, abs_ins, abs_del, abs_del, h4]
            rfl
          · have hm : f ∈ minus d.F n.data.toList := by
              refine List.mem_filter.2 ⟨hf1, ?_⟩
              rw [hf2]
              have : o.data.toList ≠ n.data.toList := fun e => hno (by
                have e2 : o.data = n.data := Array.toList_inj.1 e
                exact (ByteArray.ext e2).symm)
              simpa using this
            have ht := total_lost (F := minus d.F n.data.toList) (hR.sorted.sublist List.filter_sublist) hm
            rw [hf2] at ht
            have hi := total_ins (moveF f n.data.toList) (minus (minus d.F n.data.toList) o.data.toList)
            have hb : (moveF f n.data.toList).bytes.length = f.bytes.length := rfl
            rw [q4, q5, h5, hi, hb]
            omega
theorem cut_none (p : Nat) (d : DS) (n : ByteArray) (k : Int) (hn : n.size ≤ maxLen) (W : World) (h : Rep W p d) (hd : upB d = true) (hf : fileOf d.F n.data.toList = none) : Calls Try.prog 17 #[dp p, .string n, .int .i64 k] W (Tells W (.int .i64 6)) := by
  have hu := find_none p d n hn W h hd hf
  clear h hd hf
  unfold dp at *
  go_enter Try.func17, Try.ntmps17
  go_wp2_with fail
  (with_reducible refine hu.mono ?_)
  rintro en w1 ⟨rfl, rfl⟩
  go_wp2
  go_ret
  exact ⟨rfl, rfl⟩
theorem cut_down (p : Nat) (d : DS) (n : ByteArray) (k : Int) (W : World) (h : Rep W p d) (hd : upB d = false) : Calls Try.prog 17 #[dp p, .string n, .int .i64 k] W (Tells W (.int .i64 7)) := by
  have hu := find_down p d n W h hd
  clear h hd
  unfold dp at *
  go_enter Try.func17, Try.ntmps17
  go_wp2_with fail
  (with_reducible refine hu.mono ?_)
  rintro en w1 ⟨rfl, rfl⟩
  go_wp2
  go_ret
  exact ⟨rfl, rfl⟩
def cutE (a : Ab) (n : List UInt8) (k : Int) : Int :=
  match upA a, findL a.L n with
  | true, some x => if k < 0 ∨ (x.2.1.length : Int) < k then 1 else 0
  | true, none => 6
  | false, _ => 7
def cutA (a : Ab) (n : List UInt8) (k : Int) : Ab :=
  match upA a, findL a.L n with
  | true, some x => if k < 0 ∨ (x.2.1.length : Int) < k then a else { chgA a with L := setL a.L n (n, x.2.1.take k.toNat, min x.2.2 k.toNat) }
  | _, _ => a
theorem cut_do (p : Nat) (a : Ab) (S : Nat → Prop) (W : World) (n : ByteArray) (k : Int) (hn : n.size ≤ maxLen) (h : Is W p a S) :
    Calls Try.prog 17 #[dp p, .string n, .int .i64 k] W (Does W p S (.int .i64 (cutE a n.data.toList k)) (cutA a n.data.toList k)) := by
  have hI := h
  obtain ⟨d, hR, h1, h2, h3, h4, h5, h6⟩ := h
  have hu := up_abs h2 h3
  have hff := abs_find d.F n.data.toList
  rw [h4] at hff
  unfold cutE cutA
  rw [hu]
  cases hub : upB d with
  | false => exact (cut_down p d n k W hR hub).mono fun _ _ ht => does_tells hI ht
  | true =>
    cases hf : fileOf d.F n.data.toList with
    | none =>
      rw [hf] at hff
      simp only [hff, Option.map_none]
      exact (cut_none p d n k hn W hR hub hf).mono fun _ _ ht => does_tells hI ht
    | some f =>
      rw [hf] at hff
      simp only [hff, Option.map_some]
      obtain ⟨hf1, hf2⟩ := file_in hf
      by_cases hk : k < 0 ∨ ((absF f).2.1.length : Int) < k
      · simp only [if_pos hk]
        exact (cut_bad p d n hn W hR hub f hf k hk).mono fun _ _ ht => does_tells hI ht
      · simp only [if_neg hk]
        have hk' : k.toNat ≤ f.bytes.length := by
          have : ¬ (f.bytes.length : Int) < k := fun e => hk (.inr e)
          omega
        have hke : ((k.toNat : Nat) : Int) = k := by omega
        have hcs := cut_some p d n hn W hR hub f hf k.toNat hk'
        rw [hke] at hcs
        refine hcs.mono fun _ _ hg => does_gives h6 hg ?_
        rintro d' hR' ⟨v, rfl⟩
        refine ⟨h1, h2, chg_left (d := shortD d f k.toNat v) h2 h3, ?_, ?_⟩
        · show absL (repl f (shortF f k.toNat v) d.F) = _
          rw [abs_repl hR.sorted hR.blks hf1, h4, hf2]
          unfold absF shortF
          rw [hf2]
        · have ht := total_repl (f' := shortF f k.toNat v) hR.blks hf1
          have hl2 : (shortF f k.toNat v).bytes.length = k.toNat := by show (f.bytes.take k.toNat).length = k.toNat; simp; omega
          show d.used - ((f.bytes.length : Int) - (k.toNat : Int)) = (total (repl f (shortF f k.toNat v) d.F) : Int)
          omega
section
variable {W w : World} {p : Nat} {a : Ab}
theorem at_ren (o n : ByteArray) (h : At W p a w) (ho : o.size ≤ 140737488351232) (hn : n.size ≤ 140737488351232) (hlen : a.L.length ≤ 1000000) :
    Calls Try.prog 18 #[dp p, .string o, .string n] w (fun e w' => e = .returned (.int .i64 (renE a o n)) ∧ At W p (renA a o n) w') :=
  (ren_do p a _ w o n ho hn h.1 hlen).mono fun _ _ hd => at_does h (fun _ x => x) hd
theorem at_cut (n : ByteArray) (k : Int) (h : At W p a w) (hn : n.size ≤ maxLen) :
    Calls Try.prog 17 #[dp p, .string n, .int .i64 k] w (fun e w' => e = .returned (.int .i64 (cutE a n.data.toList k)) ∧ At W p (cutA a n.data.toList k) w') :=
  (cut_do p a _ w n k hn h.1).mono fun _ _ hd => at_does h (fun _ x => x) hd
end
end Go.Proofs.Ytpdimmkacjilgaa
