/- The laws over the sum's contracts: CrccSums, CrccParts and CrccApart walk to true, for every argument. Condition: the package's table reads as its text lays it. -/
import Derived.Test.YtcepdppnhhidoaaDoorWalk
import Derived.Below
import Derived.WalkSpells
import Derived.Laws.Concat
namespace Go.Proofs.YtcepdppnhhidoaaDoor
open Go.RowKit
theorem nat_u32 {a : Int} (h : (Lit.int .u32 a).wf = true) : ∃ n : Nat, a = n ∧ n < 4294967296 := by
  have hb : 0 ≤ a ∧ a ≤ 4294967295 := by simpa [Lit.wf, IntKind.min, IntKind.max, IntKind.signed, IntKind.bits] using h
  exact ⟨a.toNat, by omega, by omega⟩
theorem crccSums_walk (a0 : ByteArray) (a1 : Int) (W : World) (s0 : a0.size ≤ 140737488351232) (w1 : (Lit.int .u32 a1).wf = true) (hT : Tab W) :
    Calls Tryd.prog 3 #[.string a0, .int .u32 a1] W fun e w' => e = .returned (.bool true) ∧ Below W.heap.size W w' := by
  obtain ⟨n, rfl, hn⟩ := nat_u32 w1
  exact (sums_walk a0 n W (by unfold maxLen; omega) hn hT).mono fun _ _ ⟨h1, h2⟩ => ⟨h1, h2 ▸ Below.refl _ _⟩
theorem cat_list (a b : ByteArray) : (a ++ b).data.toList = a.data.toList ++ b.data.toList := by simp
theorem crccParts_walk (a0 a1 : ByteArray) (a2 : Int) (W : World) (s0 : a0.size ≤ 140737488351232) (s1 : a1.size ≤ 140737488351232) (w2 : (Lit.int .u32 a2).wf = true) (hT : Tab W) :
    Calls Tryd.prog 4 #[.string a0, .string a1, .int .u32 a2] W fun e w' => e = .returned (.bool true) ∧ Below W.heap.size W w' := by
  obtain ⟨n, rfl, hn⟩ := nat_u32 w2
  clear w2
  have hm0 : a0.size ≤ maxLen := by unfold maxLen; omega
  have hm1 : a1.size ≤ maxLen := by unfold maxLen; omega
  have hm2 : (a0 ++ a1).size ≤ maxLen := by rw [ByteArray.size_append]; unfold maxLen; omega
  have c1 : Calls Tryd.prog 9 #[.string a0] W _ := sum_c a0 W hm0 hT
  have c2 : Calls Tryd.prog 11 #[.int .u32 (ext 0 a0.data.toList : Nat), .string a1] W _ := ext_c _ a1 W hm1 (ext_lt (by decide) _) hT
  have c3 : Calls Tryd.prog 9 #[.string (a0 ++ a1)] W _ := sum_c (a0 ++ a1) W hm2 hT
  have c4 : Calls Tryd.prog 11 #[.int .u32 (n : Nat), .string a0] W _ := ext_c _ a0 W hm0 hn hT
  have c5 : Calls Tryd.prog 11 #[.int .u32 (ext n a0.data.toList : Nat), .string a1] W _ := ext_c _ a1 W hm1 (ext_lt hn _) hT
  have c6 : Calls Tryd.prog 11 #[.int .u32 (n : Nat), .string (a0 ++ a1)] W _ := ext_c _ (a0 ++ a1) W hm2 hn hT
  have c7 : Calls Tryd.prog 11 #[.int .u32 (n : Nat), .string ⟨#[]⟩] W _ := ext_c n ⟨#[]⟩ W (by decide) hn hT
  rw [cat_list, ← ext_append] at c3 c6
  rw [show (⟨#[]⟩ : ByteArray).data.toList = [] from rfl, ext_nil] at c7
  have hadd := run_string_add_sum (P := Tryd.prog) (w := W) a0 a1 (by omega)
  generalize ext 0 a0.data.toList = x1 at *
  generalize ext n a0.data.toList = x2 at *
  generalize ext x1 a1.data.toList = x3 at *
  generalize ext x2 a1.data.toList = x4 at *
  go_enter Tryd.func4, Tryd.ntmps4
  go_wp2_with (first
    | ((with_reducible refine c1.mono ?_); rintro e w' ⟨rfl, rfl⟩)
    | ((with_reducible refine c2.mono ?_); rintro e w' ⟨rfl, rfl⟩)
    | ((with_reducible refine c3.mono ?_); rintro e w' ⟨rfl, rfl⟩)
    | ((with_reducible refine c4.mono ?_); rintro e w' ⟨rfl, rfl⟩)
    | ((with_reducible refine c5.mono ?_); rintro e w' ⟨rfl, rfl⟩)
    | ((with_reducible refine c6.mono ?_); rintro e w' ⟨rfl, rfl⟩)
    | ((with_reducible refine c7.mono ?_); rintro e w' ⟨rfl, rfl⟩)
    | ((with_reducible refine (live_c W hT).mono ?_); rintro e w' ⟨rfl, rfl⟩))
  go_ret
  exact ⟨rfl, Below.refl _ _⟩
theorem crccApart_walk (a0 a1 : Int) (a2 : ByteArray) (W : World) (w0 : (Lit.int .u32 a0).wf = true) (w1 : (Lit.int .u32 a1).wf = true) (s2 : a2.size ≤ 140737488351232) (hT : Tab W) :
    Calls Tryd.prog 6 #[.int .u32 a0, .int .u32 a1, .string a2] W fun e w' => e = .returned (.bool true) ∧ Below W.heap.size W w' := by
  obtain ⟨x, rfl, hx⟩ := nat_u32 w0
  obtain ⟨y, rfl, hy⟩ := nat_u32 w1
  clear w0 w1
  have hm : a2.size ≤ maxLen := by unfold maxLen; omega
  have c1 : Calls Tryd.prog 11 #[.int .u32 (x : Nat), .string a2] W _ := ext_c x a2 W hm hx hT
  have c2 : Calls Tryd.prog 11 #[.int .u32 (y : Nat), .string a2] W _ := ext_c y a2 W hm hy hT
  by_cases h : x = y
  · subst h
    generalize ext x a2.data.toList = x1 at *
    go_enter Tryd.func6, Tryd.ntmps6
    go_wp2_with (first
      | ((with_reducible refine c1.mono ?_); rintro e w' ⟨rfl, rfl⟩)
      | ((with_reducible refine (live_c W hT).mono ?_); rintro e w' ⟨rfl, rfl⟩))
    go_ret
    exact ⟨rfl, Below.refl _ _⟩
  · have hne : ext x a2.data.toList ≠ ext y a2.data.toList := fun e => h (ext_inj hx hy _ e)
    have e1 : ((x : Int) == (y : Int)) = false := by simp; omega
    generalize ext x a2.data.toList = x1 at *
    generalize ext y a2.data.toList = y1 at *
    have e2 : ((x1 : Int) == (y1 : Int)) = false := by simp; omega
    clear h hne
    go_enter Tryd.func6, Tryd.ntmps6
    go_wp2_with (first
      | ((with_reducible refine c1.mono ?_); rintro e w' ⟨rfl, rfl⟩)
      | ((with_reducible refine c2.mono ?_); rintro e w' ⟨rfl, rfl⟩)
      | ((with_reducible refine (live_c W hT).mono ?_); rintro e w' ⟨rfl, rfl⟩))
    go_ret
    exact ⟨rfl, Below.refl _ _⟩
end Go.Proofs.YtcepdppnhhidoaaDoor
