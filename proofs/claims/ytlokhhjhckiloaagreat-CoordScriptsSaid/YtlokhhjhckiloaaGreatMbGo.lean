/- member: close, closeWhole, goOn, add, by contracts. No condition but that numbers are small. -/
import Derived.Test.YtlokhhjhckiloaaGreatMbCls
namespace Go.Proofs.YtlokhhjhckiloaaGreat
open Go.RowKit
set_option linter.unusedVariables false
theorem any_idx (f : MD → Bool) (L : List MD) : decide (0 ≤ idxM f L) = L.any f := by
  unfold idxM
  rcases h : L.findIdx? f with _ | k
  · have := List.findIdx?_eq_none_iff.1 h
    rw [show L.any f = false from by
      rw [← Bool.not_eq_true, List.any_eq_true]
      rintro ⟨x, hx, hf⟩
      rw [this x hx] at hf
      cases hf]
    rfl
  · obtain ⟨h1, h2, _⟩ := List.findIdx?_eq_some_iff_getElem.1 h
    rw [show L.any f = true from List.any_eq_true.2 ⟨_, List.getElem_mem h1, h2⟩]
    exact decide_eq_true (show (0 : Int) ≤ (k : Int) by omega)
theorem contains_c (g : Nat) (lb : Array Value) (f : MD → Bool) (eg : ∀ args w, (callFunc g args).run Tryz.prog w = .ok (.enter g args) w) (R : List MV) (A : Option Addr) (c : Nat) (W : World) (hR : RwIn W A R) (hl : R.length ≤ 1000000) (S : Nat → Prop) (hp : PrdAt g lb f S W) :
    Calls Tryz.prog 104 #[.slice A R.length c, .func (.func g) #[] lb] W (Good W (.bool ((R.map MV.d).any f))) := by
  have ci := index_c g lb f eg R A c W hR hl S hp
  rw [← any_idx]
  obtain ⟨n, hn⟩ : ∃ n, idxM f (R.map MV.d) = n := ⟨_, rfl⟩
  rw [hn] at ci ⊢
  clear hR hp hn
  go_enter Tryz.func104, Tryz.ntmps104
  go_wp2_with ((with_reducible refine ci.mono ?_); rintro e w1 ⟨rfl, hb1⟩)
  go_ret
  exact ⟨by first | rfl | simp, hb1⟩
/-- close, closeWhole, goOn. -/
def moreD (G : GD) : GD := if G.L = [] then G else { G with gn := G.gn + 1 }
def closeD (now : Int) (G : GD) : GD := enterD 2 now (moreD (dropD (fun x => !x.j) G))
def wholeD (now : Int) (G : GD) : GD := if G.L.any (fun x => !x.j) then G else closeD now G
def goOnD (now : Int) (G : GD) : GD := if G.ph = 1 then wholeD now G else beginD now G
theorem GBd.drop {G : GD} (h : GBd G) (f : MD → Bool) : GBd (dropD f G) := ⟨Nat.le_trans (List.length_filter_le _ _) h.len, h.ss, h.rb⟩
theorem GBd.more {G : GD} (h : GBd G) : GBd (moreD G) := by
  unfold moreD
  split
  · exact h
  · exact ⟨h.len, h.ss, h.rb⟩
set_option maxHeartbeats 4000000 in
set_option maxRecDepth 100000 in
theorem close_c (B p : Nat) (v : Value) (R : List MV) (G : GD) (now : Int) (W : World) (h : GrIs W B p v R G) (hG : GBd G) (hn : 0 ≤ now ∧ now ≤ 1099511627776) (hgn : 0 ≤ G.gn ∧ G.gn ≤ 1000000) :
    Calls Tryz.prog 82 #[.pointer (some ⟨p, 0, none⟩), .int .i64 now] W (Wr B p v W (closeD now G) (.tuple #[])) := by
  have cd := drop_c 112 #[] (fun x => !x.j) (fun _ _ => rfl) B p v R G W h hG (fun _ => True) (close1_p _ _) (fun _ _ => trivial)
  have ce := fun v' R' w (hh : GrIs w B p v' R' (moreD (dropD (fun x => !x.j) G))) => enter_c B p v' R' (moreD (dropD (fun x => !x.j) G)) 2 now w hh (hG.drop _).more hn
  have hgn1 : 0 ≤ (dropD (fun x => !x.j) G).gn ∧ (dropD (fun x => !x.j) G).gn ≤ 1000000 := hgn
  unfold closeD
  obtain ⟨G1, hG1⟩ : ∃ G1, dropD (fun x => !x.j) G = G1 := ⟨_, rfl⟩
  rw [hG1] at cd ce hgn1 ⊢
  have hGB := hG.drop (fun x => !x.j)
  rw [hG1] at hGB
  obtain ⟨bb, hbb⟩ : ∃ bb, decide (G1.L.length < G.L.length) = bb := ⟨_, rfl⟩
  rw [hbb] at cd
  clear h hG hG1 hgn hbb
  go_enter Tryz.func82, Tryz.ntmps82
  go_wp2_with fail
  with_reducible refine cd.mono ?_
  rintro e w1 ⟨rfl, v1, R1, h1, o1, hv1⟩
  obtain ⟨b0, b1, b2, b3, b4, b5, b6, bl, f0, f1, f2, f3, f4⟩ := gr7 h1.box
  obtain ⟨A1, c1, ev⟩ := own_slice h1.row
  subst ev
  have hlen := h1.len
  have hlb := hGB.len
  have H1 := Lib.hid h1
  have O1 := Lib.hid o1
  have V1 := Lib.hid hv1
  by_cases hL : G1.L = []
  · have hR : R1.length = 0 := by rw [hlen, hL]; rfl
    rw [hR] at b4
    have hM : moreD G1 = G1 := by unfold moreD; rw [if_pos hL]
    rw [hM] at ce
    have ce1 := ce _ _ _ h1
    have HM := Lib.hid hM
    clear h1 o1 hv1 hL hR hM hlen cd ce hlb hGB
    go_wp2_with fail
    with_reducible refine ce1.mono ?_
    rintro e w2 ⟨rfl, v2, R2, h2, o2, hv2⟩
    go_wp2_with fail
    go_end0
    exact ⟨rfl, v2, R2, by rw [HM.out]; exact h2, O1.out.two o2 V1.out, own_two2 O1.out.size V1.out hv2⟩
  · have hR : (0 : Int) < (R1.length : Int) := by rw [hlen]; have := List.length_pos_iff.2 hL; omega
    have hM : moreD G1 = { G1 with gn := G1.gn + 1 } := by unfold moreD; rw [if_neg hL]
    rw [hM] at ce
    have HM := Lib.hid hM
    have o4 := Off.one w1 ⟨p, 1, none⟩ (.int .i64 (G1.gn + 1))
    have h4 := h1.put (G' := { G1 with gn := G1.gn + 1 }) o4 (h1.box.set 1 (.int .i64 (G1.gn + 1))) rfl
    have ce1 := ce _ _ _ h4
    have O4 := Lib.hid (O1.out.trans o4 (fun k _ e => .inl e))
    clear h1 o1 hv1 hL hM hlen cd ce o4 h4 hlb hGB
    go_wp2_with fail
    with_reducible refine ce1.mono ?_
    rintro e w2 ⟨rfl, v2, R2, h2, o2, hv2⟩
    go_wp2_with fail
    go_end0
    exact ⟨rfl, v2, R2, by rw [HM.out]; exact h2, O4.out.two o2 V1.out, own_two2 O4.out.size V1.out (fun k hk => by
      rcases hv2 k hk with e | e
      · exact .inl e
      · exact .inr e)⟩
set_option maxHeartbeats 4000000 in
set_option maxRecDepth 100000 in
theorem whole_c (B p : Nat) (v : Value) (R : List MV) (G : GD) (now : Int) (W : World) (h : GrIs W B p v R G) (hG : GBd G) (hn : 0 ≤ now ∧ now ≤ 1099511627776) (hgn : 0 ≤ G.gn ∧ G.gn ≤ 1000000) :
    Calls Tryz.prog 72 #[.pointer (some ⟨p, 0, none⟩), .int .i64 now] W (Wr B p v W (wholeD now G) (.tuple #[])) := by
  obtain ⟨A, c, hv⟩ := own_slice h.row
  have hin := (h.rw_in hv).2
  have hlR : R.length ≤ 1000000 := by have := h.len; have := hG.len; omega
  have cc := contains_c 105 #[] (fun x => !x.j) (fun _ _ => rfl) R A c W hin hlR (fun _ => True) (whole1_p _ _)
  rw [h.abs] at cc
  have ce := fun w (hb : Below W.heap.size W w) => close_c B p v R G now w (h.later hb) hG hn hgn
  obtain ⟨b0, b1, b2, b3, b4, b5, b6, bl, _⟩ := gr7 h.box
  have HI := Lib.hid h
  unfold wholeD
  subst hv
  cases hA : G.L.any (fun x => !x.j) with
  | true =>
    rw [hA] at cc
    rw [if_pos rfl]
    clear hA ce h hin hG hn hgn
    go_enter Tryz.func72, Tryz.ntmps72
    go_wp2_with fail
    with_reducible refine cc.mono ?_
    rintro e w1 ⟨rfl, hb1⟩
    go_wp2_with fail
    go_end0
    exact Wr.mk (HI.out.later hb1) (Off.of_below _ hb1) (fun k hk => .inl hk)
  | false =>
    rw [hA] at cc
    rw [if_neg (by decide)]
    clear hA h hin hG hn hgn
    go_enter Tryz.func72, Tryz.ntmps72
    go_wp2_with fail
    with_reducible refine cc.mono ?_
    rintro e w1 ⟨rfl, hb1⟩
    have ce1 := ce _ hb1
    have HB := Lib.hid hb1
    clear ce hb1
    go_wp2_with fail
    with_reducible refine ce1.mono ?_
    rintro e w2 ⟨rfl, v2, R2, h2, o2, hv2⟩
    go_wp2_with fail
    go_end0
    exact ⟨rfl, v2, R2, h2, (Off.of_below _ HB.out).two o2 (fun k hk => .inl hk), own_two2 HB.out.size (fun k hk => .inl hk) hv2⟩
set_option maxHeartbeats 4000000 in
set_option maxRecDepth 100000 in
theorem goOn_c (B p : Nat) (v : Value) (R : List MV) (G : GD) (now : Int) (W : World) (h : GrIs W B p v R G) (hG : GBd G) (hn : 0 ≤ now ∧ now ≤ 1099511627776) (hgn : 0 ≤ G.gn ∧ G.gn ≤ 1000000) :
    Calls Tryz.prog 81 #[.pointer (some ⟨p, 0, none⟩), .int .i64 now] W (Wr B p v W (goOnD now G) (.tuple #[])) := by
  have c1 := whole_c B p v R G now W h hG hn hgn
  have c2 := begin_c B p v R G now W h hG hn
  obtain ⟨b0, b1, b2, b3, b4, b5, b6, bl, _⟩ := gr7 h.box
  unfold goOnD
  by_cases hp : G.ph = 1
  · rw [if_pos hp]
    have hp' : (G.ph == 1) = true := by rw [hp]; rfl
    clear h hG hn hgn hp
    go_enter Tryz.func81, Tryz.ntmps81
    go_wp2_with fail
    with_reducible refine c1.mono ?_
    rintro e w2 ⟨rfl, hh⟩
    go_wp2_with fail
    go_end0
    exact ⟨rfl, hh⟩
  · rw [if_neg hp]
    have hp' : (G.ph == 1) = false := beq_eq_false_iff_ne.2 hp
    clear h hG hn hgn hp
    go_enter Tryz.func81, Tryz.ntmps81
    go_wp2_with fail
    with_reducible refine c2.mono ?_
    rintro e w2 ⟨rfl, hh⟩
    go_wp2_with fail
    go_end0
    exact ⟨rfl, hh⟩
end Go.Proofs.YtlokhhjhckiloaaGreat
