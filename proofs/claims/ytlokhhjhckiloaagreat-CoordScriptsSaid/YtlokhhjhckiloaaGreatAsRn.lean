/- assign: Round, by a contract. No condition. -/
import Derived.Test.YtlokhhjhckiloaaGreatAsRg
namespace Go.Proofs.YtlokhhjhckiloaaGreat
open Go.RowKit
set_option linter.unusedVariables false
/-- A topic's first partitions dealt one by one; who was last. -/
def dealP (L : List Nat) (s : ByteArray) (st : (Nat → List TX) × Int) : Nat → (Nat → List TX) × Int
  | 0 => st
  | p + 1 => (updD (dealP L s st p).1 (behG L (dealP L s st p).2) ((dealP L s st p).1 (behG L (dealP L s st p).2) ++ [(s, (p : Int))]), (behG L (dealP L s st p).2 : Int))
def stepO (S : List SX) (st : (Nat → List TX) × Int) (t : TX) : (Nat → List TX) × Int := if (takersG S t.1 S.length).length = 0 then st else dealP (takersG S t.1 S.length) t.1 st t.2.toNat
def roundD (S : List SX) (T : List TX) : (Nat → List TX) × Int := T.foldl (stepO S) (fun _ => [], -1)
theorem roundD_succ {S : List SX} {T : List TX} {k : Nat} {t : TX} (h : T[k]? = some t) : roundD S (T.take (k + 1)) = stepO S (roundD S (T.take k)) t := by
  unfold roundD
  rw [List.take_add_one, h, Option.toList_some, List.foldl_append]
  rfl
theorem dealP_len {L : List Nat} {s : ByteArray} {st : (Nat → List TX) × Int} : ∀ p m, ((dealP L s st p).1 m).length ≤ (st.1 m).length + p
  | 0, m => by rw [dealP]; omega
  | p + 1, m => by
    rw [dealP]
    have ih := dealP_len (L := L) (s := s) (st := st) p
    simp only
    unfold updD
    split
    · rw [List.length_append]
      subst_vars
      have := ih (behG L (dealP L s st p).2)
      simp only [List.length_cons, List.length_nil]
      omega
    · have := ih m
      omega
theorem stepO_len {S : List SX} {st : (Nat → List TX) × Int} {t : TX} (h : t.2 ≤ 16) (m : Nat) : ((stepO S st t).1 m).length ≤ (st.1 m).length + 16 := by
  unfold stepO
  split
  · omega
  · have := dealP_len (L := takersG S t.1 S.length) (s := t.1) (st := st) t.2.toNat m
    omega
theorem roundD_len {S : List SX} {T : List TX} (hT : ∀ t ∈ T, t.2 ≤ 16) : ∀ k, k ≤ T.length → ∀ m, ((roundD S (T.take k)).1 m).length ≤ 16 * k
  | 0, _, m => by simp [roundD]
  | k + 1, hk, m => by
    have hx : T[k]? = some T[k] := List.getElem?_eq_getElem (by omega)
    rw [roundD_succ hx]
    have h1 := roundD_len (S := S) hT k (by omega) m
    have h2 := stepO_len (S := S) (st := roundD S (T.take k)) (hT _ (List.getElem_mem (by omega : k < T.length))) m
    omega
theorem behG_mem {L : List Nat} (h : 0 < L.length) (last : Int) : behG L last ∈ L := by
  unfold behG
  cases hf : L.find? fun (t : Nat) => decide (last < (t : Int)) with
  | none =>
    cases L with
    | nil => simp at h
    | cons a L => simp
  | some x => exact List.mem_of_find?_eq_some hf
/-- What a partition's box holds. -/
structure PbS (W : World) (S : List SX) (v : Value) (bt : Nat) (t : TX) (A3 : Option Addr) (c3 : Nat) (L : List Nat) (p cp n : Nat) (D : Nat → List TX) (R : List (Int × Value)) (pb : Nat) (x : TX) (w : World) : Prop where
  st : RgI W S v bt t A3 c3 L p cp n D R w
  bx : Box w pb 34 (tpC x)
theorem PbS.later {W w w' : World} {S : List SX} {v : Value} {bt : Nat} {t : TX} {A3 : Option Addr} {c3 : Nat} {L : List Nat} {p cp n : Nat} {D : Nat → List TX} {R : List (Int × Value)} {pb : Nat} {x : TX} (h : PbS W S v bt t A3 c3 L p cp n D R pb x w) (hb : Below w.heap.size w w') : PbS W S v bt t A3 c3 L p cp n D R pb x w' := ⟨h.st.later hb, h.bx.later hb⟩
theorem PbS.cells {W w : World} {S : List SX} {v : Value} {bt : Nat} {t : TX} {A3 : Option Addr} {c3 : Nat} {L : List Nat} {p cp n : Nat} {D : Nat → List TX} {R : List (Int × Value)} {pb : Nat} {x : TX} (h : PbS W S v bt t A3 c3 L p cp n D R pb x w) : w.cell? ⟨pb, 0, none⟩ = some (.string x.1) ∧ w.cell? ⟨pb, 1, none⟩ = some (.int .i64 x.2) ∧ pb < w.heap.size :=
  ⟨(h.bx.cell 0).trans rfl, (h.bx.cell 1).trans rfl, h.bx.lt⟩
theorem tp_new (w : World) (x : TX) : TpIn (w.alloc (.cells #[.string x.1, .int .i64 x.2] 34)) (some ⟨w.heap.size, 0, none⟩) [x] := fun _ => by
  refine ⟨w.heap.size, 0, rfl, (Box.new w 34 #[.string x.1, .int .i64 x.2]).lt, fun j y hy => ?_⟩
  match j, hy with
  | 0, hy =>
    have : x = y := by simpa using hy
    subst this
    exact ⟨((Box.new w 34 #[.string x.1, .int .i64 x.2]).cell 0).trans rfl, ((Box.new w 34 #[.string x.1, .int .i64 x.2]).cell 1).trans rfl⟩
theorem round_bad (S : List SX) (A : Option Addr) (c : Nat) (T : List TX) (A2 : Option Addr) (c2 : Nat) (W : World) (hS : SbIn W A S) (hT : TpIn W A2 T) (hl : S.length ≤ 140737488351232) (hl2 : T.length ≤ 140737488351232) (hz : ∀ x ∈ S, x.2.1.length ≤ 140737488351232) (hk : chkE S T = 1) :
    Calls Tryz.prog 107 #[.slice A S.length c, .slice A2 T.length c2] W (Good W (.tuple #[.slice none 0 0, .int .i64 1])) := by
  have c1 := check_c S A c T A2 c2 W hS hT hl hl2 hz
  rw [hk] at c1
  clear hS hT hz
  go_enter Tryz.func107, Tryz.ntmps107
  go_wp2_with fail
  with_reducible refine c1.mono ?_
  rintro e w1 ⟨rfl, hb1⟩
  go_wp2_with fail
  go_ret2
  exact ⟨rfl, hb1⟩
theorem start_c {W w1 w2 : World} {S : List SX} {B : Option Addr} {e0 : Nat} {D : Nat → List TX} (hD : ∀ k, D k = []) (h1 : Below W.heap.size W w1) (hrow2 : w2.ownsRow w1.heap.size 147 2 (.slice B S.length e0) S.length (shC (emptyR S))) (hb2 : Below w1.heap.size w1 w2) :
    RgS W S (.slice B S.length e0) D (emptyR S) w2 := by
  have key : ∀ (k : Nat) (r : Int × Value), (emptyR S)[k]? = some r → r.2 = .slice none 0 0 := fun k r hr => by
    unfold emptyR at hr
    rw [List.getElem?_map] at hr
    cases h : S[k]? with
    | none => rw [h] at hr; cases hr
    | some x => rw [h] at hr; injection hr with hr; rw [← hr]
  refine ⟨⟨by rw [emptyR_len]; exact own_base hrow2 h1.size, fun k r hr => ?_, fun j k r r' hr hr' b hb hb' => ?_⟩, by unfold emptyR; rw [List.map_map]; rfl, h1.trans (hb2.mono h1.size)⟩
  · rw [key k r hr, hD]
    exact World.ownsRow_nil _ _ _ _
  · rw [key j r hr] at hb
    cases hb
set_option maxHeartbeats 16000000 in
set_option maxRecDepth 100000 in
theorem round_c (S : List SX) (A : Option Addr) (c : Nat) (T : List TX) (A2 : Option Addr) (c2 : Nat) (W : World) (hS : SbIn W A S) (hT : TpIn W A2 T) (hz : ∀ x ∈ S, x.2.1.length ≤ 140737488351232) (hsz : ∀ t ∈ T, t.1.size ≤ 281474976710656) (hk : chkE S T = 0) :
    Calls Tryz.prog 107 #[.slice A S.length c, .slice A2 T.length c2] W (GotSh W S (roundD S T).1) := by
  obtain ⟨hmS, hmT⟩ := chk_ok hk
  obtain ⟨hl, hok, _⟩ := mayS_iff.1 hmS
  obtain ⟨hl2, hokT, _⟩ := mayT_iff.1 hmT
  have c1 := check_c S A c T A2 c2 W hS hT (by omega) (by omega) hz
  rw [hk] at c1
  have c3 := fun w (h : SbIn w A S) => empty_c S A c w h (by omega)
  have c4 := fun s w (h : SbIn w A S) => takers_c S A c s w h (by omega) hz
  have HS := Lib.hid hS
  have HT := Lib.hid hT
  clear hS hT hmS hmT hk hok
  unfold GotSh
  go_enter Tryz.func107, Tryz.ntmps107
  go_wp2_with fail
  with_reducible refine c1.mono ?_
  rintro e w1 ⟨rfl, hb1⟩
  have HB1 := Lib.hid hb1
  clear hb1 c1
  go_wp2_with fail
  with_reducible refine (c3 _ (HS.out.below HB1.out)).mono ?_
  rintro e w2 ⟨B, e0, rfl, hrow2, hb2⟩
  have HR0 : Hid (RgS W S (.slice B S.length e0) (roundD S (T.take 0)).1 (emptyR S) w2) := Lib.hid (start_c (fun k => rfl) HB1.out hrow2 hb2)
  clear hrow2 hb2 HB1 c3
  go_wp2_with fail
  go_loopw [8, 11, 24] (fun la _ i wr => ∃ (k : Nat) (R : List (Int × Value)), i = .int .i64 k ∧ k ≤ T.length ∧ la = .int .i64 (roundD S (T.take k)).2 ∧ RgS W S (.slice B S.length e0) (roundD S (T.take k)).1 R wr) (fun _ _ i _ => T.length - (intOf i).toNat)
  case atStart => exact ⟨0, _, rfl, Nat.zero_le _, rfl, HR0.out⟩
  case round =>
    obtain ⟨k, R, rfl, hkl, rfl, hP⟩ := hrel
    have HP := Lib.hid hP
    clear hP HR0
    by_cases hk : k < T.length
    · have hx : T[k]? = some T[k] := List.getElem?_eq_getElem hk
      obtain ⟨b, off, rfl, hlt, y0, y1⟩ := (HT.out.below HP.out.bel).at_ hk
      have hki : (k : Int) < (T.length : Int) := by omega
      have hzk := hsz _ (List.getElem_mem hk)
      have hok := okT_iff.1 (hokT _ (List.getElem_mem hk))
      have HSU := Lib.hid (roundD_succ (S := S) hx)
      have HLN := Lib.hid (roundD_len (S := S) (fun t ht => (okT_iff.1 (hokT t ht)).2) k (by omega))
      clear hx
      generalize T[k] = t at *
      obtain ⟨s, n'⟩ := t
      obtain ⟨n, rfl⟩ : ∃ n : Nat, n' = n := ⟨n'.toNat, by simp only at hok; omega⟩
      have hn1 : 1 ≤ n := by simp only at hok; omega
      have hn2 : n ≤ 16 := by simp only at hok; omega
      simp only at y0 y1 hzk
      have hBt : Below wr.heap.size wr (wr.alloc (.cells #[.string s, .int .i64 (n : Int)] 162)) := (Below.refl _ _).alloc (Nat.le_refl _) _
      have HV := Lib.hid (HP.out.later hBt)
      have HX := Lib.hid (Box.new wr 162 #[.string s, .int .i64 (n : Int)])
      have c5 := c4 s (wr.alloc (.cells #[.string s, .int .i64 (n : Int)] 162)) ((HS.out.below HP.out.bel).below hBt)
      have c6 := fun w => parts_c s n w hzk hn2
      have hc := fun w (h : Box w wr.heap.size 162 #[.string s, .int .i64 (n : Int)]) => And.intro ((h.cell 0).trans (show _ = some (Value.string s) from rfl)) ((h.cell 1).trans (show _ = some (Value.int .i64 (n : Int)) from rfl))
      unfold tpV tpC at c6
      clear hBt hok hokT c4
      go_wp2_with fail
      with_reducible refine c5.mono ?_
      rintro e w3 ⟨A3, c3, rfl, htk, hb3⟩
      have HV3 := Lib.hid (HV.out.later hb3)
      have HX3 := Lib.hid (HX.out.later hb3)
      have HTK := Lib.hid (own_base htk HV.out.bel.size)
      clear hb3 htk c5 HV HX
      obtain ⟨z0, z1⟩ := hc _ HX3.out
      have hTL := takersG_len S s S.length
      have HML := Lib.hid (fun i m => take_le (S := S) (s := s) (i := i) (m := m))
      have HD0 : Hid ((takersG S s S.length).length = 0 → stepO S (roundD S (T.take k)) (s, (n : Int)) = roundD S (T.take k)) := Lib.hid (fun h => by unfold stepO; rw [if_pos h])
      have HD1 : Hid ((takersG S s S.length).length ≠ 0 → stepO S (roundD S (T.take k)) (s, (n : Int)) = dealP (takersG S s S.length) s (roundD S (T.take k)) n) := Lib.hid (fun h => by unfold stepO; rw [if_neg h]; rfl)
      generalize takersG S s S.length = L at *
      generalize roundD S (T.take k) = D0 at *
      generalize wr.heap.size = bt at *
      by_cases hL0 : L.length = 0
      · have hLi : (L.length : Int) = 0 := by omega
        have HZ := Lib.hid (HD0.out hL0)
        clear y0 y1 HD0 HD1
        go_wp2_with fail
        go_roundw
        case rel => exact ⟨k + 1, R, by go_num, hk, by rw [HSU.out, HZ.out], by rw [HSU.out, HZ.out]; exact HV3.out⟩
        case measure => simp [intOf]; omega
      · have hLi : ¬ (L.length : Int) = 0 := by omega
        have HZ := Lib.hid (HD1.out hL0)
        clear HD0 HD1
        go_wp2_with fail
        with_reducible refine (c6 _).mono ?_
        rintro e w4 ⟨A4, c4, rfl, hpr, hb4⟩
        rw [prtsG_len] at hpr
        obtain ⟨p, rfl, hplt, hpge, hpc, _⟩ := own_in hpr (by omega)
        have HI0 : Hid (RgI W S (.slice B S.length e0) bt (s, (n : Int)) A3 c3 L p c4 n D0.1 R w4) := Lib.hid ⟨HV3.out.later hb4, HX3.out.later hb4, own_below HTK.out hb4, own_base hpr HV3.out.bel.size, fun i r hr hb => by
          have := (own_blk (HV3.out.sh.parts i r hr) hb).2
          omega⟩
        clear hpr hb4 hplt hpge z0 z1 c6 y0 y1 HV3 HX3 HTK HP
        rw [prtsG_len]
        go_wp2_with fail
        go_loopw [8, 38] (fun la j wr => ∃ (x : Nat) (R' : List (Int × Value)), j = .int .i64 x ∧ x ≤ n ∧ la = .int .i64 (dealP L s D0 x).2 ∧ RgI W S (.slice B S.length e0) bt (s, (n : Int)) A3 c3 L p c4 n (dealP L s D0 x).1 R' wr) (fun _ j _ => n - (intOf j).toNat)
        case atStart => exact ⟨0, R, rfl, Nat.zero_le _, rfl, HI0.out⟩
        case round =>
          obtain ⟨x, R', rfl, hxl, rfl, hI⟩ := hrel
          have HI := Lib.hid hI
          clear HI0
          by_cases hxk : x < n
          · have hge : (prtsG s n)[x]? = some (s, (x : Int)) := by unfold prtsG; rw [List.getElem?_map, List.getElem?_range hxk]; rfl
            obtain ⟨p', e', hpl, _, _, hpcs⟩ := own_in HI.out.prt (by omega)
            injection e' with e'
            injection e' with e'
            subst e'
            have w0 := hpcs _ _ (prtC_at hge).1
            have w1' := hpcs _ _ (prtC_at hge).2
            simp only at w0 w1'
            have hxi : (x : Int) < (n : Int) := by omega
            have hx0 : (0 : Int) ≤ (x : Int) := by omega
            have hBp : Below wr.heap.size wr (wr.alloc (.cells #[.string s, .int .i64 (x : Int)] 34)) := (Below.refl _ _).alloc (Nat.le_refl _) _
            have HPB : Hid (PbS W S (.slice B S.length e0) bt (s, (n : Int)) A3 c3 L p c4 n (dealP L s D0 x).1 R' wr.heap.size (s, (x : Int)) (wr.alloc (.cells #[.string s, .int .i64 (x : Int)] 34))) := Lib.hid ⟨HI.out.later hBp, Box.new _ _ _⟩
            have c8 := behind_c L A3 c3 W.heap.size (dealP L s D0 x).2 (wr.alloc (.cells #[.string s, .int .i64 (x : Int)] 34)) HPB.out.st.tak (by omega) (by omega)
            have hmm := behG_mem (show 0 < L.length by omega) (dealP L s D0 x).2
            have HDK : Hid (dealP L s D0 (x + 1) = (updD (dealP L s D0 x).1 (behG L (dealP L s D0 x).2) ((dealP L s D0 x).1 (behG L (dealP L s D0 x).2) ++ [(s, (x : Int))]), (behG L (dealP L s D0 x).2 : Int))) := Lib.hid rfl
            obtain ⟨im, him⟩ := List.getElem?_of_mem hmm
            have hmS := HML.out _ _ him
            have hDl : ∀ m, ((dealP L s D0 x).1 m).length ≤ 1000 := fun m => by
              have h1 := dealP_len (L := L) (s := s) (st := D0) x m
              have h2 := HLN.out m
              omega
            clear hge hpl hpcs hBp hmm him HI hI
            generalize behG L (dealP L s D0 x).2 = m at *
            generalize (dealP L s D0 x).2 = la at *
            generalize (dealP L s D0 x).1 = Dx at *
            go_wp2_with fail
            with_reducible refine c8.mono ?_
            rintro e w5 ⟨rfl, hb5⟩
            have HPB5 := Lib.hid (HPB.out.later hb5)
            clear hb5 c8 HPB w0 w1'
            have hRl : R'.length = S.length := by have := congrArg List.length HPB5.out.st.st.mem; simpa using this
            obtain ⟨r, hge2⟩ : ∃ r, R'[m]? = some r := ⟨_, List.getElem?_eq_getElem (by omega)⟩
            obtain ⟨hnR, g, rfl, hgl, hbg, _⟩ := HPB5.out.st.st.sh.at_ hge2
            have hAl : Below w5.heap.size w5 (w5.alloc (.cells #[.string s, .int .i64 (x : Int)] 34)).drew := ((Below.refl _ _).alloc (Nat.le_refl _) _).drew
            have HPB6 := Lib.hid (HPB5.out.later hAl)
            have c7 := fun cX => give_c W.heap.size g S.length e0 m R' Dx r [(s, (x : Int))] w5.heap.size 0 cX (w5.alloc (.cells #[.string s, .int .i64 (x : Int)] 34)).drew HPB6.out.st.st.sh hge2 (fun hp => tp_new w5 (s, (x : Int)) hp) (by have := hDl m; simp only [List.length_cons, List.length_nil]; omega) HPB6.out.st.st.bel.size
            rw [show [(s, (x : Int))].length = 1 from rfl] at c7
            have HGV := Lib.hid (fun e w' => RgI.gave (w' := w') (N := [(s, (x : Int))]) (e := e) HPB6.out.st hge2)
            obtain ⟨q0, q1, q2⟩ := HPB5.out.cells
            simp only at q0 q1
            have hmi : (m : Int) < (S.length : Int) := by omega
            have hm0 : (0 : Int) ≤ (m : Int) := by omega
            have hS := And.intro q0 (And.intro q1 q2)
            clear q0 q1 q2 hnR hRl hgl hbg hge2 hAl hDl
            generalize wr.heap.size = pb at *
            go_wp2_with fail
            go_region_with (first | ((with_reducible refine (c7 1).mono ?_); rintro e w6 hgv; obtain ⟨rfl, R2, hI2⟩ := HGV.out _ _ hgv; have HI2 := Lib.hid hI2; clear hI2 hgv))
            all_goals
              clear c7
              go_wp2_with fail
              go_roundw
              case rel => exact ⟨x + 1, R2, by go_num, hxk, by rw [HDK.out], by rw [HDK.out]; exact HI2.out⟩
              case measure => simp [intOf]; omega
          · have hxx : x = n := by omega
            subst hxx
            rw [← HZ.out, ← HSU.out] at hI
            have HQ := Lib.hid hI.st
            clear hI HI
            go_wp2_with fail
            go_roundw
            case rel => exact ⟨k + 1, R', by go_num, hk, by rw [HSU.out, HZ.out], HQ.out⟩
            case measure => simp [intOf]; omega
    · have hkk : k = T.length := by omega
      subst hkk
      have HQ : Hid (RgS W S (.slice B S.length e0) (roundD S T).1 R wr) := Lib.hid (by have := HP.out; rwa [List.take_length] at this)
      clear HP
      go_wp2_with fail
      go_ret2
      exact ⟨B, e0, R, rfl, HQ.out.sh, HQ.out.mem, HQ.out.bel⟩
end Go.Proofs.YtlokhhjhckiloaaGreat
