/- topic: the document's Delete, by a contract. No condition but that they are not too many. -/
import Derived.Test.YtnpfakjgocnkbaaTpRc
namespace Go.Proofs.Ytnpfakjgocnkbaa
open Go.RowKit
set_option linter.unusedVariables false
set_option maxHeartbeats 16000000 in
set_option maxRecDepth 100000 in
theorem rdelete_c (p base : Nat) (t : TS) (A : Option Addr) (c : Nat) (s : ByteArray) (W : World) (h : RtIs W base p t.1 t.2 A c) (hok : TOk t) (hbase : base ≤ W.heap.size) :
    Calls Try.prog 12 #[.pointer (some ⟨p, 0, none⟩), .string s] W (GotR W base p (deR t s.data.toList) (deS t s.data.toList)) := by
  have HP := Lib.hid (fun (r : Int × Int) => GotR.same r h (Below.refl _ _))
  have c1 := (h.box.cell 1).trans (show _ = some (Value.slice A t.2.length c) from rfl)
  have cf := rfind_c t.1 t.2 A c base p s W h (by have := hok.many; omega)
  have H := Lib.hid h
  have hlx := hok.many
  have hpl := h.box.lt
  unfold deR deS
  cases hf : ofN t.2 s.data.toList with
  | none =>
    rw [findI_none hf] at cf
    rw [minT_none hf]
    clear h hok hf
    go_enter Try.func12, Try.ntmps12
    go_wp2_with fail
    with_reducible refine cf.mono ?_
    rintro en w1 ⟨rfl, rfl⟩
    go_wp2_with fail
    go_ret2
    exact HP.out (0, 6)
  | some e =>
    obtain ⟨j, hj, hje, hmin⟩ := findI_some hok.rise hf
    rw [hj] at cf
    have HMIN := Lib.hid hmin
    have hjl : j < t.2.length := (List.getElem?_eq_some_iff.1 hje).1
    obtain ⟨g, rfl, _, z0, z1, z2, hgl, hc⟩ := rt_cell rfl h.row hje
    have hrow := h.row
    have hsp : rowT t.2 = rowT (t.2.take j) ++ ([Value.string (nmA e), .int .i64 e.id, .int .i64 e.parts] ++ rowT (t.2.drop (j + 1))) := by
      rw [row_split t.2 j, List.drop_eq_getElem_cons hjl, (List.getElem?_eq_some_iff.1 hje).2]
      rfl
    have hone := rowT_one t.2
    rw [hsp] at hrow hone
    obtain ⟨A1, d1, w1, A3, d3, w3, r1, r3, b1, b3, o3⟩ := del2 (t := 26) (by decide) Try.underlying26 onInfo rfl (by decide) hrow (k := j) (m := t.2.length - (j + 1)) (by rw [rowT_len, List.length_take]; congr 1; omega) rfl (by rw [rowT_len, List.length_drop]) (by omega) hone (by omega)
    have hji : (j : Int) < (t.2.length : Int) := by omega
    have hj0 : (0 : Int) ≤ (j : Int) := by omega
    have hj1 : (0 : Int) ≤ (j : Int) + 1 := by omega
    have hjc : (j : Int) ≤ (c : Int) := by omega
    have HB3 := Lib.hid b3
    have HO3 := Lib.hid o3
    have x11 := (h.box.later b1).cell 1 |>.trans (show _ = some (Value.slice _ t.2.length c) from rfl)
    have x31 := (h.box.later b3).frozen 1
    have x33 := (h.box.later b3).cell 1 |>.trans (show _ = some (Value.slice _ t.2.length c) from rfl)
    have p1 : p < w1.heap.size := Nat.lt_of_lt_of_le hpl b1.size
    have p3 : p < w3.heap.size := Nat.lt_of_lt_of_le hpl b3.size
    have HID : Hid (j + (t.2.length - (j + 1)) = (minT t.2 s.data.toList).length) := Lib.hid (by rw [hmin, List.length_append, List.length_take, List.length_drop]; omega)
    have hnat : ((j : Int) + 1).toNat = j + 1 := by omega
    simp only
    clear h hok hf hj hje hmin hrow hsp hone b1 b3 o3 HP
    unfold sliced at r3
    by_cases hck : c = j + 1
    · rw [if_pos hck, show t.2.length - (j + 1) = 0 by omega, show c - (j + 1) = 0 by omega] at r3
      have HCK : Hid (t.2.length = j + 1) := Lib.hid (by omega)
      subst hck
      go_enter Try.func12, Try.ntmps12
      go_wp2_with fail
      with_reducible refine cf.mono ?_
      rintro en wx ⟨rfl, rfl⟩
      clear cf
      go_wp2_with (at_builtin; first | refine wpList_append_run rfl (.tmp 22) (.tmp 28) 26 rfl _ _ _ rfl rfl r1 ?_ | refine wpList_append_run rfl (.tmp 31) (.tmp 38) 26 rfl _ _ _ rfl rfl r3 ?_)
      go_ret2
      have hfin := rd_close (G := minT t.2 s.data.toList) H.out hbase HB3.out HID.out.symm (by
        rw [HMIN.out, rowT_app]
        exact HO3.out)
      rw [show t.2.length - (j + 1) = 0 by have := HCK.out; omega] at hfin
      exact ⟨rfl, A3, d3, hfin⟩
    · rw [if_neg hck] at r3
      simp only [Option.map_some, add_spot, Nat.zero_add] at r3
      go_enter Try.func12, Try.ntmps12
      go_wp2_with fail
      with_reducible refine cf.mono ?_
      rintro en wx ⟨rfl, rfl⟩
      clear cf
      go_wp2_with (at_builtin; first | refine wpList_append_run rfl (.tmp 22) (.tmp 28) 26 rfl _ _ _ rfl rfl r1 ?_ | refine wpList_append_run rfl (.tmp 31) (.tmp 38) 26 rfl _ _ _ rfl rfl r3 ?_)
      go_ret2
      have hfin := rd_close (G := minT t.2 s.data.toList) H.out hbase HB3.out HID.out.symm (by
        rw [HMIN.out, rowT_app]
        exact HO3.out)
      exact ⟨rfl, A3, d3, hfin⟩
end Go.Proofs.Ytnpfakjgocnkbaa
