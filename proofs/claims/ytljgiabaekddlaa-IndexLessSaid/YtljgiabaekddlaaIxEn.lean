/- index: Entries. No condition but that the entries are not too many. -/
import Derived.Test.YtljgiabaekddlaaIxSk
namespace Go.Proofs.Ytljgiabaekddlaa
open Go.RowKit
set_option linter.unusedVariables false
theorem news_at8 {w : World} {g : Nat} {t : TypeId} {cs : Array Value} (h : Box w g t cs) : ∀ j u, cs.toList[j]? = some u → w.cell? ((⟨g, 0, none⟩ : Addr).add j) = some u := by
  intro j u hu
  have e1 : (⟨g, 0, none⟩ : Addr).add j = ⟨g, j, none⟩ := by unfold Addr.add; split <;> simp_all
  rw [e1, h.cell j]
  simpa using hu
theorem run_store_cplx8 {P : Program} {w : World} {a : Addr} {m : Mode} (k : FloatKind) (x y : Nat) : (store a (.complex k x y) m).run P w = stored P w a (.complex k x y) m := run_store P w a _ m rfl
attribute [local go_sem] run_store_cplx8
theorem tldInfo : (Try.prog.info? 39).map (fun i => (i.zero, i.size, i.bytes)) = some (some (.agg #[.int .i64 0, .int .i64 0, .int .i64 0]), 3, 24) := by kernel_rfl
theorem tld_one (e : En) : ∀ u ∈ [Value.int .i64 e.1, Value.int .i64 e.2.1, Value.int .i64 e.2.2], u.oneCell' = true := by
  intro u hu
  simp at hu
  rcases hu with rfl | rfl | rfl <;> rfl
def GotEns (W : World) (L : List En) (en : Ending) (w' : World) : Prop :=
  ∃ (A : Option Addr) (c : Nat), en = .returned (.slice A L.length c) ∧ w'.ownsRow W.heap.size 39 3 (.slice A L.length c) L.length (tldC L) ∧ Below W.heap.size W w'
theorem entries_nil (W : World) : Calls Try.prog 16 #[.pointer none] W (GotEns W []) := by
  go_enter Try.func16, Try.ntmps16
  go_wp2
  go_ret
  exact ⟨none, 0, rfl, World.ownsRow_nil _ _ _ _, Below.refl _ _⟩
set_option maxHeartbeats 8000000 in
set_option maxRecDepth 100000 in
theorem entries_c (x : Ix) (A : Option Addr) (c base b : Nat) (W : World) (h : IxIs W base b x A c) (hn : x.L.length ≤ 100000) :
    Calls Try.prog 16 #[.pointer (some ⟨b, 0, none⟩)] W (GotEns W x.L) := by
  obtain ⟨c0, c1, c2, c3, f0, f1, f2, f3⟩ := h.cells
  have HX := Lib.hid h
  obtain ⟨i0, hq, hqz, hqs, hqb⟩ := info_parts tldInfo
  clear c0 c2 c3 f0 f1 f2 f3 h
  go_enter Try.func16, Try.ntmps16
  go_wp2_with fail
  go_loopw [3, 13] (fun v i wr => ∃ (k : Nat) (A' : Option Addr) (c' : Nat), i = .int .i64 k ∧ k ≤ x.L.length ∧ v = .slice A' k c' ∧ wr.ownsRow W.heap.size 39 3 (.slice A' k c') k (tldC (x.L.take k)) ∧ Below W.heap.size W wr) (fun _ i _ => x.L.length - (intOf i).toNat)
  case atStart => exact ⟨0, none, 0, rfl, Nat.zero_le _, rfl, World.ownsRow_nil _ _ _ _, Below.refl _ _⟩
  case round =>
    obtain ⟨k, A', c', rfl, hk, rfl, hrow, hbel⟩ := hrel
    have HR := Lib.hid (And.intro hrow hbel)
    clear c1
    by_cases hkl : k < x.L.length
    · have he := atE_some hkl
      have hX := HX.out.later hbel
      obtain ⟨g, hA, q0, q1, hg, hcap⟩ := hX.entry he
      subst hA
      have hoke := hX.oks _ (List.mem_of_getElem? he)
      have ct := fun w => told_c (atE x.L k).1 (atE x.L k).2.1 (atE x.L k).2.2 w hoke.1 hoke.2
      have hone := tld_one (atE x.L k)
      have hsn : tldC (x.L.take (k + 1)) = tldC (x.L.take k) ++ [.int .i64 (atE x.L k).1, .int .i64 (atE x.L k).2.1, .int .i64 (atE x.L k).2.2] := by
        obtain ⟨hk1, hk2⟩ := List.getElem?_eq_some_iff.1 he
        rw [List.take_succ_eq_append_getElem hk1, hk2, tldC_snoc]
      have HSN := Lib.hid hsn
      have hkli : (k : Int) < (x.L.length : Int) := by omega
      have hk0 : (0 : Int) ≤ (k : Int) := by omega
      clear hsn hoke hX he hrow hbel
      generalize atE x.L k = e at *
      obtain ⟨o, p, t⟩ := e
      simp only at q0 q1 ct hone HSN
      generalize fl o = zo at *
      generalize fl p = zp at *
      have b0 := Box.new wr 54 #[.complex .f64 zo zp, .int .i64 t]
      have y0 := (b0.cell 0).trans (show _ = some (Value.complex .f64 zo zp) from rfl)
      have y1 := (b0.cell 1).trans (show _ = some (Value.int .i64 t) from rfl)
      have HAL := Lib.hid ((Below.refl wr.heap.size wr).alloc (Nat.le_refl _) (.cells #[.complex .f64 zo zp, .int .i64 t] 54))
      clear b0
      go_wp2_with fail
      (with_reducible refine (ct _).mono ?_)
      rintro en w1 ⟨rfl, hb1⟩
      have hb2 : Below wr.heap.size wr w1 := HAL.out.trans (hb1.mono HAL.out.size)
      have hrow1 := own_below (own_below HR.out.1 hb2) ((Below.refl w1.heap.size w1).alloc (Nat.le_refl _) (.cells #[.int .i64 o, .int .i64 p, .int .i64 t] 39))
      have HB1 := Lib.hid ((HR.out.2.trans (hb2.mono HR.out.2.size)).alloc (Nat.le_trans HR.out.2.size hb2.size) (.cells #[.int .i64 o, .int .i64 p, .int .i64 t] 39))
      have HNW := Lib.hid (news_at8 (Box.new w1 39 #[.int .i64 o, .int .i64 p, .int .i64 t]))
      have hsz := HB1.out.size
      clear hb1 hb2 ct y0 y1 q0 q1 HAL
      go_wp2_with (at_builtin; refine wpList_append_own_at _ rfl _ _ 37 rfl W.heap.size 39 i0 _ 3 24 Try.underlying37 hq hqz hqs hqb rfl (by decide) (.slice A' k c') k (tldC (x.L.take k)) rfl hrow1 ⟨w1.heap.size, 0, none⟩ 1 1 [.int .i64 o, .int .i64 p, .int .i64 t] rfl rfl HNW.out hone (by unfold maxLen; omega) (by omega) hsz ?_)
      intro v' w3 hown' hgrow _ _
      obtain ⟨g', cap', rfl⟩ : ∃ g' cap', v' = .slice (some ⟨g', 0, none⟩) (k + 1) cap' := by
        rcases hown'.2 with ⟨_, h0⟩ | ⟨g, cap, cur, hv, _⟩
        · omega
        · exact ⟨g, cap, hv⟩
      have HB3 := Lib.hid (HB1.out.grown hgrow hsz (fun j e => (hrow1.lt j e).1))
      have HO := Lib.hid hown'
      clear hown' hgrow hrow1 hone
      go_wp2
      go_roundw
      case rel => exact ⟨k + 1, some ⟨g', 0, none⟩, cap', by go_num, hkl, rfl, by rw [HSN.out]; exact HO.out, HB3.out⟩
      case measure => simp [intOf]; omega
    · have hkk : k = x.L.length := by omega
      subst hkk
      clear hrow hbel
      go_wp2_with fail
      go_ret
      exact ⟨A', c', rfl, by have := HR.out.1; rw [List.take_length] at this; exact this, HR.out.2⟩
end Go.Proofs.Ytljgiabaekddlaa
