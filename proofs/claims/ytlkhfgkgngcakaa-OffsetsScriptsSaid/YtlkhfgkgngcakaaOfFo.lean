/- offsets: Forget, by a contract. No condition but that they are not too many. -/
import Derived.Test.YtlkhfgkgngcakaaOfRm
namespace Go.Proofs.Ytlkhfgkgngcakaa
open Go.RowKit Go.Maps Go.ChangeMaps Go.WideMaps
set_option linter.unusedVariables false
set_option maxHeartbeats 4000000 in
set_option maxRecDepth 100000 in
theorem forget_c (p g : Nat) (room : Int) (F : List KE) (s : ByteArray) (W : World) (h : OfIs W p g room F) (hl : F.length ≤ 1000000) (hF : ∀ e ∈ F, KyOk e.1) :
    Calls Try.prog 14 #[.pointer (some ⟨p, 0, none⟩), .string s] W (GotRm W p g room F (outG F s)) := by
  have hB := (Below.refl W.heap.size W).alloc (Nat.le_refl _) (.cells #[.string s] 9)
  have hx : (W.alloc (.cells #[.string s] 9)).cell? ⟨W.heap.size, 0, none⟩ = some (.string s) := ((Box.new W 9 #[.string s]).cell 0).trans rfl
  have hgl := h.map.lt
  have hc := remove_c p g room F s W.heap.size _ (h.later hB) hl hF hx (by simp) (by omega)
  have HO := Lib.hid (Off.of_below (fun i => i = g) hB)
  unfold whichG at hc
  clear hB h hx hF hgl
  go_enter Try.func14, Try.ntmps14
  go_wp2_with fail
  with_reducible refine hc.mono ?_
  rintro en w1 ⟨rfl, h1, ho⟩
  have H1 := Lib.hid h1
  have HO1 := Lib.hid (HO.out.trans ho (fun i _ x => x))
  clear h1 ho hc
  go_wp2_with fail
  go_ret
  exact ⟨rfl, H1.out, HO1.out⟩
theorem remove_nil (fn : Fn) (cb : Array Value) (W : World) : Calls Try.prog 29 #[.pointer none, .func fn #[] cb] W (fun e w' => e = .returned (.int .i64 0) ∧ Below W.heap.size W w') := by
  go_enter Try.func29, Try.ntmps29
  go_wp2_with fail
  go_ret
  exact ⟨rfl, (Below.refl _ _).alloc (Nat.le_refl _) _⟩
theorem forget_nil (s : ByteArray) (W : World) : Calls Try.prog 14 #[.pointer none, .string s] W (fun e w' => e = .returned (.int .i64 0) ∧ Below W.heap.size W w') := by
  have hB := (Below.refl W.heap.size W).alloc (Nat.le_refl _) (.cells #[.string s] 9)
  have HB := Lib.hid hB
  have hc := fun fn cb w => remove_nil fn cb w
  clear hB
  go_enter Try.func14, Try.ntmps14
  go_wp2_with fail
  with_reducible refine (hc _ _ _).mono ?_
  rintro en w1 ⟨rfl, hb⟩
  have HB1 := Lib.hid (HB.out.trans (hb.mono HB.out.size))
  clear hb
  go_wp2_with fail
  go_ret
  exact ⟨rfl, HB1.out⟩
theorem drop_nil (s : ByteArray) (W : World) : Calls Try.prog 15 #[.pointer none, .string s] W (fun e w' => e = .returned (.int .i64 0) ∧ Below W.heap.size W w') := by
  have hB := (Below.refl W.heap.size W).alloc (Nat.le_refl _) (.cells #[.string s] 9)
  have HB := Lib.hid hB
  have hc := fun fn cb w => remove_nil fn cb w
  clear hB
  go_enter Try.func15, Try.ntmps15
  go_wp2_with fail
  with_reducible refine (hc _ _ _).mono ?_
  rintro en w1 ⟨rfl, hb⟩
  have HB1 := Lib.hid (HB.out.trans (hb.mono HB.out.size))
  clear hb
  go_wp2_with fail
  go_ret
  exact ⟨rfl, HB1.out⟩
theorem keys_nil (W : World) : Calls Try.prog 16 #[.pointer none] W (fun e w' => e = .returned (.slice none 0 0) ∧ w' = W) := by
  go_enter Try.func16, Try.ntmps16
  go_wp2_with fail
  go_ret
  exact ⟨rfl, rfl⟩
end Go.Proofs.Ytlkhfgkgngcakaa
