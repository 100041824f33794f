/- member: begin, close, closeWhole, goOn, by contracts. No condition but that numbers are small. -/
import Derived.Test.YtlokhhjhckiloaaGreatMbDrop
namespace Go.Proofs.YtlokhhjhckiloaaGreat
open Go.RowKit
set_option linter.unusedVariables false
/-- The members' row has turned, no more: each row of texts and of partitions is one that was there, or is told. -/
theorem GrIs.rows2 {w w' : World} {B p : Nat} {v v' : Value} {R R' : List MV} {G G' : GD} {S : Nat → Prop} (h : GrIs w B p v R G) (ho : Off S w w') (hS : ∀ k, S k → GrS p v k ∨ w.heap.size ≤ k)
    (hb : Box w' p 109 #[.int .i64 G'.ph, .int .i64 G'.gn, .int .i64 G'.nx, .int .i64 G'.un, v', .int .i64 G'.ss, .int .i64 G'.rb]) (hr : w'.ownsRow B 95 5 v' R'.length (mvR R'))
    (ha : ∀ x ∈ R', ((∃ y ∈ R, y.tv = x.tv ∧ y.d.T = x.d.T) ∨ w'.ownsRow B 9 1 x.tv x.d.T.length (strC x.d.T)) ∧ ((∃ y ∈ R, y.pv = x.pv ∧ y.d.P = x.d.P) ∨ w'.ownsRow B 34 2 x.pv x.d.P.length (prtC x.d.P))) (hL : R'.map MV.d = G'.L) : GrIs w' B p v' R' G' := by
  have q : ∀ {t size n : Nat} {u : Value} {xs : List Value}, w.ownsRow B t size u n xs → t ≠ 109 → t ≠ 95 → w'.ownsRow B t size u n xs := fun hr hne hn2 => own_off hr ho (fun k hk hk2 => by
    have hlt := (own_blk hr hk).2
    rcases hS k hk2 with (rfl | e) | e
    · exact own_ne hr h.box (fun e => hne e.symm) k hk rfl
    · exact own_two hr h.row hn2 k hk e
    · omega)
  refine ⟨hb, h.base, hr, fun x hx => ⟨?_, ?_⟩, hL⟩
  · rcases (ha x hx).1 with ⟨y, hy, e1, e2⟩ | e
    · rw [← e1, ← e2]; exact q (h.all y hy).tr (by decide) (by decide)
    · exact e
  · rcases (ha x hx).2 with ⟨y, hy, e1, e2⟩ | e
    · rw [← e1, ← e2]; exact q (h.all y hy).pr (by decide) (by decide)
    · exact e
/-- A member that has to join anew. -/
def clrV (x : MV) : MV := ⟨{ x.d with j := false, P := [] }, x.tv, .slice none 0 0⟩
def bgR (R : List MV) (k : Nat) : List MV := (R.take k).map clrV ++ R.drop k
theorem bgR_len (R : List MV) (k : Nat) : (bgR R k).length = R.length := by simp [bgR]; omega
theorem bgR_zero (R : List MV) : bgR R 0 = R := by simp [bgR]
theorem bgR_all (R : List MV) : bgR R R.length = R.map clrV := by simp [bgR]
theorem bgR_at {R : List MV} {k : Nat} {x : MV} (h : R[k]? = some x) : (bgR R k)[k]? = some x := by
  have hl := (List.getElem?_eq_some_iff.1 h).1
  have e : ((R.take k).map clrV).length = k := by simp; omega
  unfold bgR
  rw [List.getElem?_append_right (by omega), e, Nat.sub_self, List.getElem?_drop, Nat.add_zero, h]
theorem bgR_step {R : List MV} {k : Nat} {x : MV} (h : R[k]? = some x) : (bgR R k).set k (clrV x) = bgR R (k + 1) := by
  have hl := (List.getElem?_eq_some_iff.1 h).1
  have e : ((R.take k).map clrV).length = k := by simp; omega
  unfold bgR
  rw [List.set_append_right _ _ (by omega), e, Nat.sub_self, List.drop_eq_getElem_cons hl, List.set_cons_zero, List.take_add_one, h]
  simp
/-- Beginning under way. -/
structure BgAt (W : World) (B p : Nat) (v : Value) (R : List MV) (G : GD) (k : Nat) (wr : World) : Prop where
  le : k ≤ R.length
  is : GrIs wr B p v (bgR R k) { G with L := (bgR R k).map MV.d }
  off : Off (GrS p v) W wr
theorem BgAt.start {W : World} {B p : Nat} {v : Value} {R : List MV} {G : GD} (h : GrIs W B p v R G) : BgAt W B p v R G 0 W := ⟨Nat.zero_le _, by rw [bgR_zero]; exact h.abs' rfl, Off.refl _ _⟩
theorem BgAt.step {W wr : World} {B p g c : Nat} {R : List MV} {G : GD} {k : Nat} {x : MV} (h : BgAt W B p (.slice (some ⟨g, 0, none⟩) R.length c) R G k wr) (hx : R[k]? = some x) :
    BgAt W B p (.slice (some ⟨g, 0, none⟩) R.length c) R G (k + 1) ((wr.setCell ⟨g, k * 5 + 3, none⟩ (.bool false)).setCell ⟨g, k * 5 + 4, none⟩ (.slice none 0 0)) := by
  have hl := (List.getElem?_eq_some_iff.1 hx).1
  have hM := bgR_at hx
  have hr := h.is.row
  rw [bgR_len] at hr
  have hgp : g ≠ p := fun e => own_ne hr h.is.box (by decide) g rfl e
  have h3 := (hr.stored (k * 5 + 3) (.bool false)).1
  rw [mvR_set (bgR R k) k x (by rw [bgR_len]; exact hl) ⟨{ x.d with j := false }, x.tv, x.pv⟩ hM 3 (.bool false) (by decide) rfl] at h3
  have hM2 : ((bgR R k).set k ⟨{ x.d with j := false }, x.tv, x.pv⟩)[k]? = some ⟨{ x.d with j := false }, x.tv, x.pv⟩ := by rw [List.getElem?_set_self (by rw [bgR_len]; exact hl)]
  have h4 := (h3.stored (k * 5 + 4) (.slice none 0 0)).1
  rw [mvR_set _ k _ (by rw [List.length_set, bgR_len]; exact hl) (clrV x) hM2 4 (.slice none 0 0) (by decide) rfl, List.set_set, bgR_step hx] at h4
  have o := (Off.one wr ⟨g, k * 5 + 3, none⟩ (.bool false)).set (p := ⟨g, k * 5 + 4, none⟩) (.inl (show g = g from rfl)) (.slice none 0 0)
  have hb : Box ((wr.setCell ⟨g, k * 5 + 3, none⟩ (.bool false)).setCell ⟨g, k * 5 + 4, none⟩ (.slice none 0 0)) p _ _ := h.is.box.off o (fun e => hgp (show p = g from e).symm)
  have h4' : ((wr.setCell ⟨g, k * 5 + 3, none⟩ (.bool false)).setCell ⟨g, k * 5 + 4, none⟩ (.slice none 0 0)).ownsRow B 95 5 (.slice (some ⟨g, 0, none⟩) R.length c) (bgR R (k + 1)).length (mvR (bgR R (k + 1))) := by rw [bgR_len]; exact h4
  refine ⟨by omega, h.is.rows2 (S := fun i => i = g) (G' := { G with L := (bgR R (k + 1)).map MV.d }) o (fun i e => .inl (.inr (by rw [e]; rfl))) hb h4' (fun y hy => ?_) rfl, h.off.trans o (fun i _ e => .inr (by rw [e]; rfl))⟩
  rw [← bgR_step hx] at hy
  rcases List.mem_or_eq_of_mem_set hy with hy | rfl
  · exact ⟨.inl ⟨y, hy, rfl, rfl⟩, .inl ⟨y, hy, rfl, rfl⟩⟩
  · exact ⟨.inl ⟨x, List.mem_of_getElem? hM, rfl, rfl⟩, .inr (World.ownsRow_nil _ _ _ _)⟩
theorem bg_abs {R : List MV} {L : List MD} (h : R.map MV.d = L) : (R.map clrV).map MV.d = L.map fun x => { x with j := false, P := [] } := by
  rw [← h, List.map_map, List.map_map]
  rfl
set_option maxHeartbeats 4000000 in
set_option maxRecDepth 100000 in
theorem begin_c (B p : Nat) (v : Value) (R : List MV) (G : GD) (now : Int) (W : World) (h : GrIs W B p v R G) (hG : GBd G) (hn : 0 ≤ now ∧ now ≤ 1099511627776) :
    Calls Tryz.prog 70 #[.pointer (some ⟨p, 0, none⟩), .int .i64 now] W (Wr B p v W (beginD now G) (.tuple #[])) := by
  obtain ⟨b0, b1, b2, b3, b4, b5, b6, bl, f0, f1, f2, f3, f4⟩ := gr7 h.box
  have hlen := h.len
  have hlR : (R.length : Int) ≤ 100000 := by have := hG.len; omega
  have HI := Lib.hid h
  have hG2 : GBd { G with L := (R.map clrV).map MV.d } := ⟨by simpa [hlen] using hG.len, hG.ss, hG.rb⟩
  have ce := fun w (hh : GrIs w B p v (R.map clrV) { G with L := (R.map clrV).map MV.d }) => enter_c B p v (R.map clrV) { G with L := (R.map clrV).map MV.d } 1 now w hh hG2 hn
  have HD : Hid (enterD 1 now { G with L := (R.map clrV).map MV.d } = beginD now G) := Lib.hid (by unfold beginD; rw [bg_abs h.abs])
  obtain ⟨A, c, hv⟩ := own_slice h.row
  subst hv
  have HST := Lib.hid (BgAt.start h)
  clear h hG hG2 hlen
  go_enter Tryz.func70, Tryz.ntmps70
  go_wp2
  go_loopw [11] (fun i wr => ∃ k : Nat, i = .int .i64 k ∧ BgAt W B p (.slice A R.length c) R G k wr) (fun i _ => R.length - (intOf i).toNat)
  case atStart => exact ⟨0, rfl, HST.out⟩
  case round =>
    clear b0 b1 b2 b3 b4 b5 b6 bl f0 f1 f2 f3 f4 HST
    obtain ⟨k, rfl, hA⟩ := hrel
    have hle := hA.le
    obtain ⟨b0, b1, b2, b3, b4, b5, b6, bl, f0, f1, f2, f3, f4⟩ := gr7 hA.is.box
    by_cases hk : k < R.length
    · obtain ⟨x, hx⟩ : ∃ x, R[k]? = some x := ⟨_, List.getElem?_eq_getElem hk⟩
      obtain ⟨g, c', e, hgl, _, hgp, _, _, _, q3, q4, hf⟩ := hA.is.at_ (bgR_at hx)
      injection e with e _ ec
      subst e
      have hf3 := hf (k * 5 + 3)
      have hf4 := hf (k * 5 + 4)
      have HA := Lib.hid (hA.step hx)
      clear hA hx hf HI ce hle ec
      generalize hi5 : k * 5 = i5 at *
      go_wp2
      go_roundw
      case rel => exact ⟨k + 1, by go_num, HA.out⟩
      case measure => simp [intOf]; omega
    · have hk2 : k = R.length := by omega
      subst hk2
      have hO := hA.off
      have hI := hA.is
      rw [bgR_all] at hI
      have HO := Lib.hid hO
      have ce2 := ce _ hI
      clear hA hO hI ce hk
      go_wp2_with fail
      with_reducible refine ce2.mono ?_
      rintro e w2 ⟨rfl, v2, R2, h2, o2, hv2⟩
      go_wp2_with fail
      go_end0
      rw [HD.out] at h2
      exact ⟨rfl, v2, R2, h2, HO.out.two o2 (fun k hk => .inl hk), fun k hk => by
        rcases hv2 k hk with e | e
        · exact .inl e
        · exact .inr (Nat.le_trans HO.out.size e)⟩
end Go.Proofs.YtlokhhjhckiloaaGreat
