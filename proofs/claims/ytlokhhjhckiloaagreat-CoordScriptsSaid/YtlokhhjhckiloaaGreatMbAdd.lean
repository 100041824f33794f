/- member: mayWant, add, by contracts. No condition but that numbers are small. -/
import Derived.Test.YtlokhhjhckiloaaGreatMbCp
namespace Go.Proofs.YtlokhhjhckiloaaGreat
open Go.RowKit
set_option linter.unusedVariables false
/-- May a member want these? -/
def wantB (T : List ByteArray) : Bool := decide (T.length ≤ 20) && risesB bL T
theorem want_chk (T : List ByteArray) (A : Option Addr) (c : Nat) : chkE [(0, T, A, c)] [] = if wantB T = true then 0 else 1 := by
  have h1 : mayT [] = true := rfl
  have h2 : risesB sL [((0 : Int), T, A, c)] = true := rfl
  unfold chkE mayS wantB
  rw [h1, h2]
  simp [okS]
set_option maxHeartbeats 2000000 in
theorem want_c (T : List ByteArray) (A : Option Addr) (c : Nat) (W : World) (hH : StrIn W A T) (hl : T.length ≤ 140737488351232) :
    Calls Tryz.prog 67 #[.slice A T.length c] W (Good W (.bool (wantB T))) := by
  have hB1 : Below W.heap.size W (W.alloc (.cells #[.int .i64 0, .slice A T.length c] 142)) := (Below.refl _ _).alloc (Nat.le_refl _) _
  have hbx := Box.new W 142 #[.int .i64 0, .slice A T.length c]
  have hin : SbIn (W.alloc (.cells #[.int .i64 0, .slice A T.length c] 142)) (some ⟨W.heap.size, 0, none⟩) [((0 : Int), T, A, c)] := fun _ => ⟨_, 0, rfl, hbx.lt, fun j x hx => by
    match j, hx with
    | 0, hx =>
      have : ((0 : Int), T, A, c) = x := by simpa using hx
      subst this
      exact ⟨⟨hbx.cell 0, hbx.cell 1⟩, hH.below hB1⟩⟩
  have cc := check_c [((0 : Int), T, A, c)] (some ⟨W.heap.size, 0, none⟩) 1 [] none 0 _ hin (TpIn.nil _ _) (by simp) (by simp) (fun x hx => by
    have : x = ((0 : Int), T, A, c) := by simpa using hx
    rw [this]; exact hl)
  rw [want_chk] at cc
  simp only [List.length_cons, List.length_nil, Nat.zero_add] at cc
  have HB := Lib.hid hB1
  cases hw : wantB T with
  | true =>
    rw [hw, if_pos rfl] at cc
    clear hw hin hbx hB1 hH
    go_enter Tryz.func67, Tryz.ntmps67
    go_wp2_with fail
    with_reducible refine cc.mono ?_
    rintro e w1 ⟨rfl, hb1⟩
    go_wp2_with fail
    go_ret
    exact ⟨rfl, bjoin HB.out hb1 rfl rfl⟩
  | false =>
    rw [hw, if_neg (by decide)] at cc
    clear hw hin hbx hB1 hH
    go_enter Tryz.func67, Tryz.ntmps67
    go_wp2_with fail
    with_reducible refine cc.mono ?_
    rintro e w1 ⟨rfl, hb1⟩
    go_wp2_with fail
    go_ret
    exact ⟨rfl, bjoin HB.out hb1 rfl rfl⟩
/-- One member more. -/
def addD (G : GD) : GD := { G with nx := G.nx + 1, L := G.L ++ [⟨G.nx, [], 0, false, []⟩] }
def newV (n : Int) : MV := ⟨⟨n, [], 0, false, []⟩, .slice none 0 0, .slice none 0 0⟩
set_option maxHeartbeats 4000000 in
set_option maxRecDepth 100000 in
theorem add_c (B p : Nat) (v : Value) (R : List MV) (G : GD) (W : World) (h : GrIs W B p v R G) (hG : GBd G) (hnx : 0 ≤ G.nx ∧ G.nx ≤ 1000000) (hBW : B ≤ W.heap.size) :
    Calls Tryz.prog 69 #[.pointer (some ⟨p, 0, none⟩)] W (Wr B p v W (addD G) (.int .i64 G.nx)) := by
  obtain ⟨i0, hi, hz0, hz1, hz2⟩ := info_parts oneInfo
  have hlen := h.len
  have hlR : R.length ≤ 100000 := by have := hG.len; omega
  have o1 := Off.one W ⟨p, 2, none⟩ (.int .i64 (G.nx + 1))
  have hA1 : Below (W.setCell ⟨p, 2, none⟩ (.int .i64 (G.nx + 1))).heap.size (W.setCell ⟨p, 2, none⟩ (.int .i64 (G.nx + 1))) ((W.setCell ⟨p, 2, none⟩ (.int .i64 (G.nx + 1))).alloc (.cells (mvC (newV G.nx)).toArray 95)) := (Below.refl _ _).alloc (Nat.le_refl _) _
  have h1 := (h.put (G' := { G with nx := G.nx + 1 }) o1 (h.box.set 2 (.int .i64 (G.nx + 1))) rfl).later hA1
  have hnews := news_at (Box.new (W.setCell ⟨p, 2, none⟩ (.int .i64 (G.nx + 1))) 95 (mvC (newV G.nx)).toArray)
  obtain ⟨b0, b1, b2, b3, b4, b5, b6, bl, f0, f1, f2, f3, f4⟩ := gr7 h.box
  obtain ⟨A, c, hv⟩ := own_slice h.row
  subst hv
  have H1 := Lib.hid h1
  have HI := Lib.hid h
  have hrow := h1.row
  have O1 := Lib.hid (o1.later hA1)
  have hsz : B ≤ ((W.setCell ⟨p, 2, none⟩ (.int .i64 (G.nx + 1))).alloc (.cells (mvC (newV G.nx)).toArray 95)).heap.size := Nat.le_trans hBW O1.out.size
  have hx4 := gr7 h1.box
  obtain ⟨x0, x1, x2, x3, x4, x5, x6, xl, y0, y1, y2, y3, y4⟩ := hx4
  have hzc : (W.setCell ⟨p, 2, none⟩ (.int .i64 (G.nx + 1))).heap.size = W.heap.size := by simp
  rw [hzc] at hnews
  clear h h1 o1 hA1 hlen hG hzc
  unfold mvC newV at hnews hrow H1 O1 hsz x0 x1 x2 x3 x4 x5 x6 xl y0 y1 y2 y3 y4
  dsimp only at hnews hrow H1 O1 hsz x0 x1 x2 x3 x4 x5 x6 xl y0 y1 y2 y3 y4
  go_enter Tryz.func69, Tryz.ntmps69
  go_wp2_with (at_builtin; refine wpList_append_own_at _ rfl _ _ 55 rfl B 95 i0 (.agg #[.int .i64 0, .slice none 0 0, .int .i64 0, .bool false, .slice none 0 0]) 5 72 Tryz.underlying55 hi hz0 hz1 hz2 rfl (by decide) (.slice A R.length c) R.length (mvR R) rfl hrow ⟨W.heap.size, 0, none⟩ 1 1 [.int .i64 G.nx, .slice none 0 0, .int .i64 0, .bool false, .slice none 0 0] rfl rfl hnews (by simp [Value.oneCell']) (by unfold maxLen; omega) (by omega) hsz ?_)
  intro v' w5 hown' hgrow _ hat
  obtain ⟨A', c', rfl⟩ := own_slice hown'
  have hpb : (Value.slice A R.length c).ownBlock ≠ some p := fun e => own_ne hrow H1.out.box (by decide) p e rfl
  have hp5 := (hgrow.block p xl (fun e => hpb e.symm)).trans H1.out.box
  obtain ⟨z0, z1, z2, z3, z4, z5, z6, zl, u0, u1, u2, u3, u4⟩ := gr7 (show Box w5 p 109 _ from hp5)
  have HP5 : Hid (Box w5 p 109 _) := Lib.hid hp5
  have HOWN := Lib.hid hown'
  have HG := Lib.hid hgrow
  have HAT := Lib.hid hat
  clear hown' hgrow hat hp5 hpb hnews x0 x1 x2 x3 x4 x5 x6 xl y0 y1 y2 y3 y4 b0 b1 b2 b3 b4 b5 b6 bl f0 f1 f2 f3 f4 hrow
  go_wp2_with fail
  go_ret
  have o2 := (((Off.refl (GrS p (.slice A R.length c)) _).grown HG.out (fun k e _ => .inr e))).set (p := ⟨p, 4, none⟩) (.inl (.inl rfl)) (.slice A' (R.length + 1) c')
  have oT := ((O1.out.mono (fun k _ e => (.inl e : GrS p (.slice A R.length c) k)))).trans o2 (fun k _ e => e)
  refine ⟨rfl, .slice A' (R.length + 1) c', R ++ [newV G.nx], ?_, oT, fun k hk => ?_⟩
  · refine H1.out.rows2 (S := GrS p (.slice A R.length c)) (G' := addD G) o2 (fun k e => .inl e) (Box.set HP5.out 4 _) ?_ (fun x hx => ?_) ?_
    · rw [List.length_append, mvR_app]
      exact own_off HOWN.out (Off.one w5 ⟨p, 4, none⟩ _) (fun k hk e => own_ne HOWN.out HP5.out (by decide) k hk e)
    · rcases List.mem_append.1 hx with hx | hx
      · exact ⟨.inl ⟨x, hx, rfl, rfl⟩, .inl ⟨x, hx, rfl, rfl⟩⟩
      · have : x = newV G.nx := by simpa using hx
        subst this
        exact ⟨.inr (World.ownsRow_nil _ _ _ _), .inr (World.ownsRow_nil _ _ _ _)⟩
    · rw [List.map_append, HI.out.abs]; rfl
  · rcases HAT.out with e | e
    · rw [e] at hk; exact .inl hk
    · rw [e] at hk
      injection hk with hk
      exact .inr (by omega)
end Go.Proofs.YtlokhhjhckiloaaGreat
