/- member: drop, close, closeWhole, by contracts. No condition but that numbers are small. -/
import Derived.Test.YtlokhhjhckiloaaGreatMbDel
import Derived.Test.YtlokhhjhckiloaaGreatMbEnt
namespace Go.Proofs.YtlokhhjhckiloaaGreat
open Go.RowKit
set_option linter.unusedVariables false
theorem PrdAt.mono {g : Nat} {lb : Array Value} {f : MD → Bool} {S T : Nat → Prop} {w : World} (h : PrdAt g lb f S w) (hs : ∀ k, k < w.heap.size → T k → S k) : PrdAt g lb f T w := fun x W hb => h x W (hb.mono hs)
theorem delete_nil (gf : Nat) (lb : Array Value) (f : MD → Bool) (eg : ∀ args w, (callFunc gf args).run Tryz.prog w = .ok (.enter gf args) w) (W : World) (S : Nat → Prop) (hp : PrdAt gf lb f S W) (c : Nat) (A : Option Addr) :
    Calls Tryz.prog 111 #[.slice A 0 c, .func (.func gf) #[] lb] W (Good W (.slice A 0 c)) := by
  have ci := index_c gf lb f eg [] A c W (fun h => absurd h (Nat.lt_irrefl _)) (by simp) S hp
  have e1 : idxM f (([] : List MV).map MV.d) = -1 := rfl
  rw [e1] at ci
  rw [List.length_nil] at ci
  clear e1 hp
  go_enter Tryz.func111, Tryz.ntmps111
  go_wp2_with ((with_reducible refine ci.mono ?_); rintro e w1 ⟨rfl, hb1⟩)
  go_ret
  exact ⟨rfl, hb1⟩
/-- A group with fewer members. -/
def dropD (f : MD → Bool) (G : GD) : GD := { G with L := G.L.filter fun x => !f x }
theorem drop_abs {R : List MV} {L : List MD} (f : MD → Bool) (h : R.map MV.d = L) : (R.filter (fun x => !f x.d)).map MV.d = L.filter (fun x => !f x) := by
  rw [← h, List.filter_map]
  rfl
set_option maxHeartbeats 4000000 in
set_option maxRecDepth 100000 in
theorem drop_c (gf : Nat) (lb : Array Value) (f : MD → Bool) (eg : ∀ args w, (callFunc gf args).run Tryz.prog w = .ok (.enter gf args) w) (B p : Nat) (v : Value) (R : List MV) (G : GD) (W : World) (h : GrIs W B p v R G) (hG : GBd G) (S : Nat → Prop) (hp : PrdAt gf lb f S W) (hS : ∀ k, v.ownBlock = some k → S k) :
    Calls Tryz.prog 79 #[.pointer (some ⟨p, 0, none⟩), .func (.func gf) #[] lb] W (Wr B p v W (dropD f G) (.bool (decide ((dropD f G).L.length < G.L.length)))) := by
  obtain ⟨b0, b1, b2, b3, b4, b5, b6, bl, f0, f1, f2, f3, f4⟩ := gr7 h.box
  have hlen := h.len
  have hlR : R.length ≤ 1000000 := by have := hG.len; omega
  have hRl : (R.length : Int) ≤ 1000000 := by omega
  have HI := Lib.hid h
  obtain ⟨F, hF⟩ : ∃ F, R.filter (fun x => !f x.d) = F := ⟨_, rfl⟩
  have hFl : F.length = (dropD f G).L.length := by rw [← hF, ← List.length_map (f := MV.d), drop_abs f h.abs]; rfl
  have hFR : F.length ≤ R.length := by rw [← hF]; exact List.length_filter_le _ _
  have habs : F.map MV.d = (dropD f G).L := by rw [← hF, drop_abs f h.abs]; rfl
  rw [show decide ((dropD f G).L.length < G.L.length) = decide (F.length < R.length) by rw [hFl, hlen]]
  have HABS := Lib.hid habs
  rcases h.row.2 with ⟨hv, hn⟩ | ⟨g, cap, cur, hv, hbg, hg, hnc, _⟩
  · have hR0 : R = [] := List.eq_nil_of_length_eq_zero hn
    have hFe : F = [] := by rw [← hF, hR0]; rfl
    subst hv
    subst hR0
    subst hFe
    have cd := fun w (hb : Below W.heap.size W w) => delete_nil gf lb f eg w S (hp.later hb) 0 none
    clear h hlen hlR hRl hF hFl hFR habs hn hG hp hS
    go_enter Tryz.func79, Tryz.ntmps79
    go_wp2_with fail
    with_reducible refine (cd _ (Below.refl _ _)).mono ?_
    rintro e w1 ⟨rfl, hb1⟩
    have h1 := HI.out.later hb1
    obtain ⟨y0, y1, y2, y3, y4, y5, y6, yl, z0, z1, z2, z3, z4⟩ := gr7 h1.box
    have HB1 := Lib.hid hb1
    have H1 := Lib.hid h1
    clear b0 b1 b2 b3 b4 b5 b6 bl f0 f1 f2 f3 f4 cd hb1 h1
    go_wp2_with fail
    go_ret
    have o4 := Off.one w1 ⟨p, 4, none⟩ (.slice none 0 0)
    exact ⟨rfl, _, [], (H1.out.put (G' := G) o4 (H1.out.box.set 4 (.slice none 0 0)) rfl).abs' HABS.out, (Off.of_below (GrS p (.slice none 0 0)) HB1.out).trans o4 (fun k _ e => .inl e), fun k hk => by cases hk⟩
  · subst hv
    have cd := delete_c gf lb f eg B g cap R W h.row hlR (fun x hx => ⟨own_slice (h.all x hx).tr |>.elim fun A ⟨c, e⟩ => ⟨A, _, c, e⟩, own_slice (h.all x hx).pr |>.elim fun A ⟨c, e⟩ => ⟨A, _, c, e⟩⟩) (hp.mono (fun k _ e => hS k (by rw [e]; rfl)))
    unfold GotDl at cd
    rw [hF] at cd
    have hgp : p ≠ g := fun e => own_ne h.row h.box (by decide) g rfl e.symm
    have HALL : Hid (∀ x ∈ F, x ∈ R) := Lib.hid (fun x hx => by rw [← hF] at hx; exact (List.mem_filter.1 hx).1)
    clear h hlen hF hFl habs hG hp hS
    go_enter Tryz.func79, Tryz.ntmps79
    go_wp2_with fail
    with_reducible refine cd.mono ?_
    rintro e w1 ⟨rfl, hr1, ho1⟩
    have hb1 := HI.out.box.off ho1 (fun e => hgp e)
    obtain ⟨y0, y1, y2, y3, y4, y5, y6, yl, z0, z1, z2, z3, z4⟩ := gr7 hb1
    have HX1 := Lib.hid hb1
    have HR1 := Lib.hid hr1
    have HO1 := Lib.hid ho1
    have HGP := Lib.hid hgp
    clear b0 b1 b2 b3 b4 b5 b6 bl f0 f1 f2 f3 f4 cd hb1 hr1 ho1 hgp
    go_wp2_with fail
    go_ret
    have o4 := Off.one w1 ⟨p, 4, none⟩ (.slice (some ⟨g, 0, none⟩) F.length cap)
    have oT : Off (GrS p (.slice (some ⟨g, 0, none⟩) R.length cap)) W (w1.setCell ⟨p, 4, none⟩ (.slice (some ⟨g, 0, none⟩) F.length cap)) := (HO1.out.mono (fun k _ e => .inr (by rw [e]; rfl))).trans o4 (fun k _ e => .inl e)
    refine ⟨by first | rfl | simp, .slice (some ⟨g, 0, none⟩) F.length cap, F, ?_, oT, fun k hk => .inl hk⟩
    exact HI.out.rows (G' := dropD f G) oT (fun k e => .inl e) (HX1.out.set 4 _) (own_off HR1.out o4 (fun k hk e => HGP.out (by
      have e2 : g = k := by simpa [Value.ownBlock] using hk
      rw [e2]; exact e.symm))) (fun x hx => .inl ⟨x, HALL.out x hx, rfl, rfl, rfl, rfl⟩) HABS.out
end Go.Proofs.YtlokhhjhckiloaaGreat
