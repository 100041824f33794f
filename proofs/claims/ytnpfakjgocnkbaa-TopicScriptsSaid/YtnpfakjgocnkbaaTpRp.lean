/- topic: the document's Print, by a contract. No condition but that the table is one. -/
import Derived.Test.YtnpfakjgocnkbaaTpRl
import Derived.Test.YtnpfakjgocnkbaaTpPr
import Derived.Test.YtnpfakjgocnkbaaRTake
import Derived.Deep.RegionHeld3
namespace Go.Proofs.Ytnpfakjgocnkbaa
open Go.RowKit
set_option linter.unusedVariables false
theorem bytes_app (l m : List UInt8) : (⟨l.toArray⟩ : ByteArray) ++ ⟨m.toArray⟩ = ⟨(l ++ m).toArray⟩ := by apply ByteArray.ext; simp
theorem bytes_size (l : List UInt8) : (⟨l.toArray⟩ : ByteArray).size = l.length := by show l.toArray.size = _; simp
theorem bytes_le {l : List UInt8} {n : Nat} (h : l.length ≤ n) : (⟨l.toArray⟩ : ByteArray).size ≤ n := by rw [bytes_size]; exact h
theorem text_eq (s : ByteArray) : textG s = ⟨(txt s).toArray⟩ := by
  rw [← toText]
theorem cell_lt {w : World} {p : Addr} {v : Value} (h : w.cell? p = some v) : p.block < w.heap.size := by
  rcases Nat.lt_or_ge p.block w.heap.size with hlt | hge
  · exact hlt
  · exfalso
    unfold World.cell? at h
    simp [Array.getElem?_eq_none hge] at h
theorem rps2 {W w w' : World} {p1 p2 : Addr} {v1 v2 : Value} (h : w.cell? p1 = some v1 ∧ w.cell? p2 = some v2 ∧ Below W.heap.size W w) (hb : Below w.heap.size w w') :
    w'.cell? p1 = some v1 ∧ w'.cell? p2 = some v2 ∧ Below W.heap.size W w' :=
  ⟨(hb.cell (cell_lt h.1)).trans h.1, (hb.cell (cell_lt h.2.1)).trans h.2.1, h.2.2.trans (hb.mono h.2.2.size)⟩
theorem rps4 {W w w' : World} {p1 p2 p3 p4 : Addr} {v1 v2 v3 v4 : Value} (h : w.cell? p1 = some v1 ∧ w.cell? p2 = some v2 ∧ w.cell? p3 = some v3 ∧ w.cell? p4 = some v4 ∧ Below W.heap.size W w) (hb : Below w.heap.size w w') :
    w'.cell? p1 = some v1 ∧ w'.cell? p2 = some v2 ∧ w'.cell? p3 = some v3 ∧ w'.cell? p4 = some v4 ∧ Below W.heap.size W w' :=
  ⟨(hb.cell (cell_lt h.1)).trans h.1, (hb.cell (cell_lt h.2.1)).trans h.2.1, (hb.cell (cell_lt h.2.2.1)).trans h.2.2.1, (hb.cell (cell_lt h.2.2.2.1)).trans h.2.2.2.1, h.2.2.2.2.trans (hb.mono h.2.2.2.2.size)⟩
theorem two_run {P : Program} (a b : List UInt8) (ha : a.length ≤ 10) (hb : b.length ≤ 10) : ∀ w : World, (Op.stringOp .add ⟨a.toArray⟩ ⟨b.toArray⟩).run P w = .ok (.string (⟨a.toArray⟩ ++ ⟨b.toArray⟩)) w :=
  add_run (bytes_le ha) (bytes_le hb) (by decide)
theorem three_run {P : Program} (s a b c : List UInt8) (hs : s.length ≤ 1000000000) (ha : a.length ≤ 1000) (hb : b.length ≤ 10) (hc : c.length ≤ 10) :
    (∀ w : World, (Op.stringOp .add ⟨s.toArray⟩ ⟨a.toArray⟩).run P w = .ok (.string (⟨s.toArray⟩ ++ ⟨a.toArray⟩)) w) ∧ (∀ w : World, (Op.stringOp .add (⟨s.toArray⟩ ++ ⟨a.toArray⟩) ⟨b.toArray⟩).run P w = .ok (.string (⟨s.toArray⟩ ++ ⟨a.toArray⟩ ++ ⟨b.toArray⟩)) w) ∧
      (∀ w : World, (Op.stringOp .add (⟨s.toArray⟩ ++ ⟨a.toArray⟩ ++ ⟨b.toArray⟩) ⟨c.toArray⟩).run P w = .ok (.string (⟨s.toArray⟩ ++ ⟨a.toArray⟩ ++ ⟨b.toArray⟩ ++ ⟨c.toArray⟩)) w) := by
  have z0 := bytes_le hs
  have z1 := bytes_le ha
  have z2 := bytes_le hb
  have z3 := bytes_le hc
  exact ⟨add_run z0 z1 (by decide), add_run (cat_le z0 z1) z2 (by decide), add_run (cat_le (cat_le z0 z1) z2) z3 (by decide)⟩
theorem three_eq (s a b c : List UInt8) : (⟨s.toArray⟩ : ByteArray) ++ ⟨a.toArray⟩ ++ ⟨b.toArray⟩ ++ ⟨c.toArray⟩ = ⟨(((s ++ a) ++ b) ++ c).toArray⟩ := by
  rw [bytes_app, bytes_app, bytes_app]
theorem prK_zero (t : TS) : prK t 0 = putL t.1 ++ putL (t.2.length : Int) := by unfold prK; simp
set_option maxHeartbeats 16000000 in
set_option maxRecDepth 100000 in
theorem rprint_c (p base : Nat) (t : TS) (A : Option Addr) (c : Nat) (W : World) (h : RtIs W base p t.1 t.2 A c) (hok : TOk t) :
    Calls Try.prog 20 #[.pointer (some ⟨p, 0, none⟩)] W (Good W (.string ⟨(printT t).toArray⟩)) := by
  have H0 := Lib.hid h
  have e0 := (h.box.cell 0).trans (show _ = some (Value.int .i64 t.1) from rfl)
  have e1 := (h.box.cell 1).trans (show _ = some (Value.slice A t.2.length c) from rfl)
  have hlx := hok.many
  have hn := hok.next
  have c1 := fun w => rput_c t.1 w (by omega) (by omega)
  have c2 := fun w => rput_c (t.2.length : Int) w (by omega) (by omega)
  have a1 := two_run (P := Try.prog) (putL t.1) (putL (t.2.length : Int)) (putL_len _) (putL_len _)
  have he := bytes_app (putL t.1) (putL (t.2.length : Int))
  rw [← prK_zero] at he
  have HE := Lib.hid he
  have HOK := Lib.hid hok
  have hS : (fun w => w.cell? ⟨p, 0, none⟩ = some (.int .i64 t.1) ∧ w.cell? ⟨p, 1, none⟩ = some (.slice A t.2.length c) ∧ Below W.heap.size W w) W := ⟨e0, e1, Below.refl _ _⟩
  clear h he hok e0 e1
  go_enter Try.func20, Try.ntmps20
  go_wp2_with fail
  go_region_held3 (fun w => w.cell? ⟨p, 0, none⟩ = some (.int .i64 t.1) ∧ w.cell? ⟨p, 1, none⟩ = some (.slice A t.2.length c) ∧ Below W.heap.size W w)
    (first | exact rps2 hS ((Below.refl _ _).drew) | exact rps2 (by assumption) (by assumption))
    (first
      | ((with_reducible refine (c1 _).mono ?_); rintro e w3 ⟨rfl, hb3⟩)
      | ((with_reducible refine (c2 _).mono ?_); rintro e w3 ⟨rfl, hb3⟩))
  all_goals
    have HB := Lib.hid (And.right (And.right (by assumption : (fun w => w.cell? ⟨p, 0, none⟩ = some (.int .i64 t.1) ∧ w.cell? ⟨p, 1, none⟩ = some (.slice A t.2.length c) ∧ Below W.heap.size W w) _)))
    rw [HE.out]
    clear c1 c2 a1 hS
    go_wp2_with fail
    go_loopw [3, 4] (fun sv i wr => ∃ k : Nat, i = .int .i64 k ∧ k ≤ t.2.length ∧ sv = .string ⟨(prK t k).toArray⟩ ∧ Below W.heap.size W wr) (fun _ i _ => t.2.length - (intOf i).toNat)
    case atStart => exact ⟨0, rfl, Nat.zero_le _, rfl, HB.out⟩
    case round =>
      obtain ⟨k, rfl, hk, rfl, hB⟩ := hrel
      have HB1 := Lib.hid hB
      have e1 := ((H0.out.later hB).box.cell 1).trans (show _ = some (Value.slice A t.2.length c) from rfl)
      clear hB HB
      by_cases hkl : k < t.2.length
      · obtain ⟨x, hx⟩ : ∃ x, t.2[k]? = some x := ⟨_, List.getElem?_eq_getElem hkl⟩
        obtain ⟨g, rfl, _, z0, z1, z2, hgl, hc⟩ := rt_cell rfl (H0.out.later HB1.out).row hx
        have hxm := List.mem_of_getElem? hx
        have hxb := (HOK.out.names x hxm)
        have hid := HOK.out.ids x hxm
        have hpt := HOK.out.parts x hxm
        have HPS := Lib.hid (prK_snoc hx)
        have hK0 : (0 : Int) ≤ (k : Int) := by omega
        have hK1 : (k : Int) < (t.2.length : Int) := by omega
        have ct := fun w => rtext_c (nmA x) w (by rw [nmA_size]; omega)
        rw [text_eq] at ct
        have c1 := fun w => rput_c x.id w (by omega) (by omega)
        have c2 := fun w => rput_c x.parts w (by omega) (by omega)
        obtain ⟨a1, a2, a3⟩ := three_run (P := Try.prog) (prK t k) (txt (nmA x)) (putL x.id) (putL x.parts) (by have := prK_len HOK.out k; omega) (by
          have := putL_len (x.name.length : Int)
          rw [txt_len, nmA_size]; omega) (putL_len _) (putL_len _)
        have he := three_eq (prK t k) (txt (nmA x)) (putL x.id) (putL x.parts)
        rw [HPS.out] at he
        have HE2 := Lib.hid he
        have hS : (fun w => w.cell? ⟨p, 1, none⟩ = some (.slice (some ⟨g, 0, none⟩) t.2.length c) ∧ w.cell? ⟨g, k * 3, none⟩ = some (.string (nmA x)) ∧ w.cell? ⟨g, k * 3 + 1, none⟩ = some (.int .i64 x.id) ∧ w.cell? ⟨g, k * 3 + 2, none⟩ = some (.int .i64 x.parts) ∧ Below W.heap.size W w) wr := ⟨e1, z0, z1, z2, HB1.out⟩
        clear hx hxm hxb he hid hpt
        go_wp2_with fail
        clear e1 z0 z1 z2
        go_region_held3 (fun w => w.cell? ⟨p, 1, none⟩ = some (.slice (some ⟨g, 0, none⟩) t.2.length c) ∧ w.cell? ⟨g, k * 3, none⟩ = some (.string (nmA x)) ∧ w.cell? ⟨g, k * 3 + 1, none⟩ = some (.int .i64 x.id) ∧ w.cell? ⟨g, k * 3 + 2, none⟩ = some (.int .i64 x.parts) ∧ Below W.heap.size W w)
          (first | exact rps4 hS ((Below.refl _ _).drew) | exact rps4 (by assumption) (by assumption))
          (first
            | ((with_reducible refine (ct _).mono ?_); rintro e w3 ⟨rfl, hb3⟩)
            | ((with_reducible refine (c1 _).mono ?_); rintro e w3 ⟨rfl, hb3⟩)
            | ((with_reducible refine (c2 _).mono ?_); rintro e w3 ⟨rfl, hb3⟩))
        all_goals
          have HB7 := Lib.hid (And.right (And.right (And.right (And.right (by assumption : (fun w => w.cell? ⟨p, 1, none⟩ = some (.slice (some ⟨g, 0, none⟩) t.2.length c) ∧ w.cell? ⟨g, k * 3, none⟩ = some (.string (nmA x)) ∧ w.cell? ⟨g, k * 3 + 1, none⟩ = some (.int .i64 x.id) ∧ w.cell? ⟨g, k * 3 + 2, none⟩ = some (.int .i64 x.parts) ∧ Below W.heap.size W w) _)))))
          rw [HE2.out]
          clear ct c1 c2 a1 a2 a3 hS
          go_wp2_with fail
          exact ⟨⟨k + 1, by go_num, hkl, rfl, HB7.out⟩, by simp [intOf]; omega⟩
      · have hke : t.2.length ≤ k := by omega
        have HEN := Lib.hid (prK_end t hke)
        have hki : ¬ (k : Int) < (t.2.length : Int) := by omega
        clear hke
        go_wp2_with fail
        go_ret
        exact ⟨by rw [HEN.out]; rfl, HB1.out⟩
end Go.Proofs.Ytnpfakjgocnkbaa
