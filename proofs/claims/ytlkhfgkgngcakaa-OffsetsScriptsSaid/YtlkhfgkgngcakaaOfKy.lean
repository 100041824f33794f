/- offsets: slices.SortedFunc of its keys; Keys, by contracts. No condition but that they are not too many. -/
import Derived.Test.YtlkhfgkgngcakaaOfAp
import Derived.Test.YtlkhfgkgngcakaaOfFo
namespace Go.Proofs.Ytlkhfgkgngcakaa
open Go.RowKit Go.Maps Go.Sort Go.Shelf Go.Lib
set_option linter.unusedVariables false
def GotC (w : World) (F : List KE) (e : Ending) (w' : World) : Prop := ∃ (v : Value) (ss : List KY), e = .returned v ∧ ss.Perm (F.map (·.1)) ∧ w'.ownsRow w.heap.size 45 3 v ss.length (rowKy ss) ∧ (v = .slice none 0 0 ↔ ss = []) ∧ Below w.heap.size w w'
theorem collect_c (Bm b nn : Nat) (F : List KE) (hF : ∀ e ∈ F, KyOk e.1) (hr : F.Pairwise fun a b => bytesBefore (kyB a.1) (kyB b.1) = true) (hl : F.length ≤ 1000000) (w : World) (hBm : Bm < w.heap.size)
    (hm : w.cell? ⟨Bm, 0, none⟩ = some (.map (some b))) (hown : w.ownsMap Try.prog 45 tokI b nn (mapK F)) :
    Calls Try.prog 49 #[.func (.func 51) #[] #[.pointer (some ⟨Bm, 0, none⟩)]] w (GotC w F) :=
  (callsIn_wide (n := 5)).1 (collect_in Fence.wide 5 trivial trivial rfl (by omega) _ _ trivial (enters_of Try.func51 (by kernel_rfl) rfl) (fun ss => ss.Perm (F.map (·.1))) F.length hl w (keys_gives Fence.wide 3 trivial rfl (by omega) Bm b nn F hF hr w hBm hm hown))
theorem mkeys_c (mb : Option Nat) (w : World) : Calls Try.prog 33 #[.map mb] w fun e w' => e = .returned (.func (.func 51) #[] #[.pointer (some ⟨w.heap.size, 0, none⟩)]) ∧ w' = w.alloc (.cells #[.map mb] 57) :=
  (callsIn_wide (n := 5)).1 (mkeys_in Fence.wide 5 trivial rfl mb w)
def GotS (w : World) (base g cap : Nat) (ss : List KY) (e : Ending) (w' : World) : Prop := e = .returned (.tuple #[]) ∧ w'.ownsRow base 45 3 (.slice (some ⟨g, 0, none⟩) ss.length cap) ss.length (rowKy (sortK ss)) ∧ w.grownBy w' (some g)
/-- slices.SortFunc at a row of keys. -/
theorem sortf_c (base g cap : Nat) (ss : List KY) (w : World) (hrow : w.ownsRow base 45 3 (.slice (some ⟨g, 0, none⟩) ss.length cap) ss.length (rowKy ss)) (hl : ss.length ≤ 1000000) :
    Calls Try.prog 50 #[.slice (some ⟨g, 0, none⟩) ss.length cap, .func (.func 34) #[] #[]] w (GotS w base g cap ss) := by
  rcases hrow.2 with ⟨hv, _⟩ | ⟨g', cap', cur, hv, hbase, hgb, r1, r2, r3, r4⟩
  · cases hv
  · injection hv with e1 _ e3
    injection e1 with e1
    injection e1 with e1
    subst e1 e3
    have hH : HoldsK kyC 3 w g 0 ss.toArray := by
      unfold HoldsK
      rw [flatC_arr]
      exact holds_flat hgb (by rw [rowKy_len]; exact r4)
    have eg : ∀ args w, (callFunc 34 args).run Try.prog w = .ok (.enter 34 args) w := enters_of Try.func34 (by kernel_rfl) rfl
    have hcon := AnyQ.slices_SortFunc_total Try.sortKeys 3 Try.isAgg45 Try.sizeOf45 kyC (fun _ => rfl) (fun x v hv => by unfold kyC at hv; simp at hv; rcases hv with rfl | rfl | rfl <;> rfl) cfK swoK 34 #[] g 0 cap ss.toArray w eg (fun _ _ _ _ x y => compare_c x y _) hH (lt_of_there hgb) (by simp; omega) partsK
    refine hcon.mono ?_
    rintro e w' ⟨rfl, n, os, rfl⟩
    have hx : (ss.mergeSort fun x y => !ltOf cfK y x) = sortK ss := rfl
    rw [List.toList_toArray, hx]
    unfold sortWorldK putRowK
    rw [flatC_arr]
    have hlen : (sortK ss).length = ss.length := (sortK_perm ss).length_eq
    exact ⟨rfl, ownsRow_flat (by rw [rowKy_len, hlen]) hbase hgb r1 r2 r3, grownBy_flat _⟩
theorem sortf_none (p : Option Addr) (cap : Nat) (fv : Value) (w : World) : Calls Try.prog 50 #[.slice p 0 cap, fv] w fun e w' => e = .returned (.tuple #[]) ∧ w' = w :=
  AnyF.slices_SortFunc_none { Try.sortKeys with } p cap fv w
def GotK (w : World) (F : List KE) (e : Ending) (w' : World) : Prop := ∃ (A : Option Addr) (c : Nat), e = .returned (.slice A F.length c) ∧ w'.ownsRow w.heap.size 45 3 (.slice A F.length c) F.length (rowKy (keysOf F)) ∧ Below w.heap.size w w'
set_option maxHeartbeats 4000000 in
set_option maxRecDepth 100000 in
theorem sorted_c (Bm b nn : Nat) (F : List KE) (hF : ∀ e ∈ F, KyOk e.1) (hr : F.Pairwise fun a b => bytesBefore (kyB a.1) (kyB b.1) = true) (hl : F.length ≤ 1000000) (w : World) (hBm : Bm < w.heap.size)
    (hm : w.cell? ⟨Bm, 0, none⟩ = some (.map (some b))) (hown : w.ownsMap Try.prog 45 tokI b nn (mapK F)) :
    Calls Try.prog 32 #[.func (.func 51) #[] #[.pointer (some ⟨Bm, 0, none⟩)], .func (.func 34) #[] #[]] w (GotK w F) := by
  have cc := collect_c Bm b nn F hF hr hl w hBm hm hown
  clear hBm hm hown
  go_enter Try.func32, Try.ntmps32
  go_wp2_with fail
  with_reducible refine cc.mono ?_
  rintro en w1 ⟨v, ss, rfl, hp, hrow, hnil, hb⟩
  have hlen : ss.length = F.length := by rw [hp.length_eq, List.length_map]
  have hk : keysOf F = sortK ss := (sortK_of_perm hp).symm
  rcases hrow.2 with ⟨rfl, hz⟩ | ⟨g, cap, cur, rfl, hbase, hgb, r1, r2, r3, r4⟩
  · have hss : ss = [] := List.eq_nil_of_length_eq_zero hz
    subst hss
    have HR := Lib.hid hrow
    have HB := Lib.hid hb
    have HK := Lib.hid hk
    have HL := Lib.hid hlen
    have cs := fun fv w => sortf_none none 0 fv w
    clear hrow hb hk hlen hp hnil cc hF hr hl hz
    go_wp2_with fail
    with_reducible refine (cs _ _).mono ?_
    rintro en w2 ⟨rfl, rfl⟩
    go_wp2_with fail
    go_ret
    have e0 : F.length = 0 := HL.out.symm
    refine ⟨none, 0, by rw [e0]; rfl, ?_, HB.out⟩
    have e1 : sortK [] = [] := by unfold sortK; simp
    rw [HK.out, e0, e1]
    exact HR.out
  · have cs := sortf_c w.heap.size g cap ss w1 hrow (by omega)
    have HB := Lib.hid hb
    have HK := Lib.hid hk
    have HL := Lib.hid hlen
    have HG := Lib.hid hbase
    clear hrow hb hk hlen hp hnil cc hF hr hl r1 r2 r3 r4 hgb hbase
    go_wp2_with fail
    with_reducible refine cs.mono ?_
    rintro en w2 ⟨rfl, hrow, hg⟩
    have HR := Lib.hid hrow
    have HB2 := Lib.hid (HB.out.grown hg HB.out.size (fun k e => by cases e; exact HG.out))
    clear hrow hg
    go_wp2_with fail
    go_ret
    refine ⟨some ⟨g, 0, none⟩, cap, by rw [← HL.out]; rfl, ?_, HB2.out⟩
    rw [HK.out, ← HL.out]
    exact HR.out
end Go.Proofs.Ytlkhfgkgngcakaa
