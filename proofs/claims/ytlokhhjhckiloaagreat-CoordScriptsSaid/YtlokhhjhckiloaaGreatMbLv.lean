/- member: Leave, Tick, by contracts. No condition but that numbers are small. -/
import Derived.Test.YtlokhhjhckiloaaGreatMbBt
import Derived.BigQuiet
namespace Go.Proofs.YtlokhhjhckiloaaGreat
open Go.RowKit
set_option linter.unusedVariables false
theorem Wr.later {B p : Nat} {v : Value} {W w w' : World} {G' : GD} {res : Value} {e : Ending} (h : Wr B p v w G' res e w') (hb : Below W.heap.size W w) : Wr B p v W G' res e w' := by
  obtain ⟨h0, v', R', h1, h2, h3⟩ := h
  exact ⟨h0, v', R', h1, (Off.of_below _ hb).trans h2 (fun k _ e => e), fun k hk => by
    rcases h3 k hk with e | e
    · exact .inl e
    · exact .inr (Nat.le_trans hb.size e)⟩
def isM (m : Int) (x : MD) : Bool := decide (x.n = m)
def leaveE (m now : Int) (G : GD) : Int := if timeB now = true then (if decide ((dropD (fun x => decide (x.n = m)) G).L.length < G.L.length) = true then 0 else 11) else 1
def leaveD (m now : Int) (G : GD) : GD := if timeB now = true then (if decide ((dropD (fun x => decide (x.n = m)) G).L.length < G.L.length) = true then goOnD now (dropD (fun x => decide (x.n = m)) G) else dropD (fun x => decide (x.n = m)) G) else G
theorem leave_nil (m now : Int) (W : World) : Calls Tryz.prog 49 #[.pointer none, .int .i64 m, .int .i64 now] W (Good W (.int .i64 1)) := by
  have ct := fun w => takes_nil now w
  have HB := Lib.hid ((Below.refl W.heap.size W).alloc (Nat.le_refl _) (.cells #[.int .i64 m] 3))
  go_enter Tryz.func49, Tryz.ntmps49
  go_wp2_with fail
  with_reducible refine (ct _).mono ?_
  rintro e w1 ⟨rfl, hw⟩
  subst hw
  go_wp2_with fail
  go_ret
  exact ⟨rfl, HB.out⟩
set_option maxHeartbeats 4000000 in
set_option maxRecDepth 100000 in
theorem leave_c (B p : Nat) (v : Value) (R : List MV) (G : GD) (m now : Int) (W : World) (h : GrIs W B p v R G) (hG : GBd G) (hgn : 0 ≤ G.gn ∧ G.gn ≤ 1000000) :
    Calls Tryz.prog 49 #[.pointer (some ⟨p, 0, none⟩), .int .i64 m, .int .i64 now] W (Wr B p v W (leaveD m now G) (.int .i64 (leaveE m now G))) := by
  have ct := fun w => takes_c p now w
  have hbx := Box.new W 3 #[.int .i64 m]
  have hB1 : Below W.heap.size W (W.alloc (.cells #[.int .i64 m] 3)) := (Below.refl _ _).alloc (Nat.le_refl _) _
  have h1 := h.later hB1
  have cd := drop_c 85 #[.pointer (some ⟨W.heap.size, 0, none⟩)] (fun x => decide (x.n = m)) (fun _ _ => rfl) B p v R G _ h1 hG (GrS p v) (leave1_p W.heap.size m _ _ ((hbx.cell 0).trans rfl) hbx.lt (fun hs => by
    rcases hs with e | e
    · have := h.box.lt; omega
    · have := (own_blk h.row e).2; omega)) (fun k e => .inr e)
  have HI := Lib.hid h
  have HB := Lib.hid hB1
  unfold leaveE leaveD
  cases ht : timeB now with
  | false =>
    rw [ht] at ct
    rw [if_neg (by decide), if_neg (by decide)]
    clear h hG ht h1 cd hbx hB1
    go_enter Tryz.func49, Tryz.ntmps49
    go_wp2_with fail
    with_reducible refine (ct _).mono ?_
    rintro e w1 ⟨rfl, hw⟩
    subst hw
    go_wp2_with fail
    go_ret
    exact Wr.mk (HI.out.later HB.out) (Off.of_below _ HB.out) (fun k hk => .inl hk)
  | true =>
    rw [ht] at ct
    rw [if_pos rfl, if_pos rfl]
    have hn := time_bd ht
    have hGd := hG.drop (fun x => decide (x.n = m))
    have hgn' : 0 ≤ (dropD (fun x => decide (x.n = m)) G).gn ∧ (dropD (fun x => decide (x.n = m)) G).gn ≤ 1000000 := hgn
    obtain ⟨G1, hG1⟩ : ∃ G1, dropD (fun x => decide (x.n = m)) G = G1 := ⟨_, rfl⟩
    rw [hG1] at cd hGd hgn' ⊢
    have cg := fun v R w (hh : GrIs w B p v R G1) => goOn_c B p v R G1 now w hh hGd hn hgn'
    clear h hG ht h1 hbx hB1 hG1 hgn
    cases hd : decide (G1.L.length < G.L.length) with
    | false =>
      rw [hd] at cd
      rw [if_neg (by decide), if_neg (by decide)]
      clear hd cg
      go_enter Tryz.func49, Tryz.ntmps49
      go_wp2_with fail
      with_reducible refine (ct _).mono ?_
      rintro e w1 ⟨rfl, hw⟩
      subst hw
      go_wp2_with fail
      with_reducible refine cd.mono ?_
      rintro e w2 ⟨rfl, hh⟩
      go_wp2_with fail
      go_ret
      exact Wr.later ⟨rfl, hh⟩ HB.out
    | true =>
      rw [hd] at cd
      rw [if_pos rfl, if_pos rfl]
      clear hd
      go_enter Tryz.func49, Tryz.ntmps49
      go_wp2_with fail
      with_reducible refine (ct _).mono ?_
      rintro e w1 ⟨rfl, hw⟩
      subst hw
      go_wp2_with fail
      with_reducible refine cd.mono ?_
      rintro e w2 ⟨rfl, v2, R2, h2, o2, hv2⟩
      have cg2 := cg _ _ _ h2
      have O2 := Lib.hid o2
      have V2 := Lib.hid hv2
      clear h2 o2 hv2 cg cd
      go_wp2_with fail
      with_reducible refine cg2.mono ?_
      rintro e w3 ⟨rfl, v3, R3, h3, o3, hv3⟩
      go_wp2_with fail
      go_ret
      exact Wr.later (w := W.alloc (.cells #[.int .i64 m] 3)) ⟨rfl, v3, R3, h3, O2.out.two o3 V2.out, own_two2 O2.out.size V2.out hv3⟩ HB.out
end Go.Proofs.YtlokhhjhckiloaaGreat
