/- coord: findOrMake, Join, by contracts. No condition but that calls are not too many. -/
import Derived.Test.YtlokhhjhckiloaaCoFn
import Derived.BigRegion
namespace Go.Proofs.Ytlokhhjhckiloaa
open Go.RowKit Go.Maps Go.ChangeMaps Go.WideMaps
set_option linter.unusedVariables false
section
variable {W w w' : World} {p g o og : Nat} {k ss rb : Int} {F : List CE} {V : Nat → Value} {D : Nat → GD} {O : List Of.KE}
theorem cfm_some (h : CO W w p g o og k ss rb F F V D O) (s : ByteArray) (hs : s.size ≤ maxLen) {e0 : CE} (hf : ofN F s.data.toList = some e0) : Calls Try.prog 16 #[.pointer (some ⟨p, 0, none⟩), .string s] w (fun e w' => e = .returned (.tuple #[.pointer (some ⟨e0.blk, 0, none⟩), .int .i64 0]) ∧ w' = w) := by
  have hl := look_any h.is s hs true
  obtain ⟨c0, c1, c2, c3, cl⟩ := h.is.cells
  rw [if_pos rfl, hf] at hl
  simp only [lookV, ceV, Option.isSome] at hl
  go_enter Try.func16, Try.ntmps16
  go_wp2_with fail
  go_ret2
  exact ⟨rfl, rfl⟩
theorem cfm_full (h : CO W w p g o og k ss rb F F V D O) (s : ByteArray) (hs : s.size ≤ maxLen) (hf : ofN F s.data.toList = none) (h20 : 20 ≤ F.length) : Calls Try.prog 16 #[.pointer (some ⟨p, 0, none⟩), .string s] w (fun e w' => e = .returned (.tuple #[.pointer none, .int .i64 5]) ∧ w' = w) := by
  have hl := look_any h.is s hs true
  obtain ⟨c0, c1, c2, c3, cl⟩ := h.is.cells
  rw [if_pos rfl, hf] at hl
  simp only [lookV, Option.isSome] at hl
  have hn := fun ty => len_run h.is ty
  have h2 : (20 : Int) ≤ (F.length : Int) := by omega
  go_enter Try.func16, Try.ntmps16
  go_wp2_with fail
  go_ret2
  exact ⟨rfl, rfl⟩
theorem wit_ok {s r : Int} (hs : 1 ≤ s ∧ s ≤ 100000) (hr : 1 ≤ r ∧ r ≤ 100000) : (witB s 1 100000 && witB r 1 100000) = true := by
  unfold witB
  rw [decide_eq_true hs.1, decide_eq_true hs.2, decide_eq_true hr.1, decide_eq_true hr.2]
  rfl
theorem cfm_new (h : CO W w p g o og k ss rb F F V D O) (s : ByteArray) (hs : s.size ≤ maxLen) (hf : ofN F s.data.toList = none) (h20 : F.length < 20) : Calls Try.prog 16 #[.pointer (some ⟨p, 0, none⟩), .string s] w (fun e w' => e = .returned (.tuple #[.pointer (some ⟨w.heap.size, 0, none⟩), .int .i64 0]) ∧ w' = w.drew.alloc (.cells #[.int .i64 0, .int .i64 0, .int .i64 0, .int .i64 0, .slice none 0 0, .int .i64 ss, .int .i64 rb] 73)) := by
  have hl := look_any h.is s hs true
  obtain ⟨c0, c1, c2, c3, cl⟩ := h.is.cells
  rw [if_pos rfl, hf] at hl
  simp only [lookV, Option.isSome] at hl
  have hn := fun ty => len_run h.is ty
  have h2 : ¬ (20 : Int) ≤ (F.length : Int) := by omega
  have d0 := (((Below.refl w.heap.size w).drew.alloc (Nat.le_refl _) (.cells #[.int .i64 0, .int .i64 0, .int .i64 0, .int .i64 0, .slice none 0 0, .int .i64 ss, .int .i64 rb] 73)).cell (p := ⟨p, 0, none⟩) cl).trans c0
  have d1 := (((Below.refl w.heap.size w).drew.alloc (Nat.le_refl _) (.cells #[.int .i64 0, .int .i64 0, .int .i64 0, .int .i64 0, .slice none 0 0, .int .i64 ss, .int .i64 rb] 73)).cell (p := ⟨p, 1, none⟩) cl).trans c1
  have cn := new_ok ss rb (wit_ok h.ss h.rb) w.drew
  go_enter Try.func16, Try.ntmps16
  go_wp2_with fail
  go_region_held3 (fun wq => wq.cell? ⟨p, 0, none⟩ = some (.int .i64 ss) ∧ wq.cell? ⟨p, 1, none⟩ = some (.int .i64 rb))
    (first | exact ⟨c0, c1⟩ | exact ⟨d0, d1⟩)
    (first | ((with_reducible refine cn.mono ?_); rintro en w1 ⟨rfl, rfl⟩))
  go_wp2_with fail
  go_ret2
  exact ⟨rfl, rfl⟩
end
/-- What Join tells: is there an error? -/
def joE (s : ByteArray) (m : Int) (T : List ByteArray) (now : Int) (F : List CE) (D : Nat → GD) (ss rb : Int) : Int :=
  if s.size < 1 ∨ 100 < s.size then 1 else match gv F D s.data.toList with
    | some G => joinE m T now G
    | none => if 20 ≤ F.length then 5 else joinE m T now (newG ss rb)
def joG (s : ByteArray) (F : List CE) (D : Nat → GD) (ss rb : Int) : GD := (gv F D s.data.toList).getD (newG ss rb)
/-- What Join gives. -/
def GotJ (W : World) (p g o og : Nat) (k ss rb : Int) (F : List CE) (D : Nat → GD) (O : List Of.KE) (s : ByteArray) (m : Int) (T : List ByteArray) (now : Int) (en : Ending) (w' : World) : Prop :=
  (joE s m T now F D ss rb ≠ 0 ∧ en = .returned (.tuple #[.agg #[.int .i64 0, .int .i64 0, .int .i64 0], .int .i64 (joE s m T now F D ss rb)]) ∧ ∃ V' D', CO W w' p g o og (k + 2) ss rb F F V' D' O ∧ ∀ n, gv F D' n = gv F D n) ∨
  (joE s m T now F D ss rb = 0 ∧ ∃ F' V' D', en = .returned (.tuple #[.agg #[.int .i64 (joinM m (joG s F D ss rb)), .int .i64 (joinD m T now (joG s F D ss rb)).gn, .int .i64 (leadM (joinD m T now (joG s F D ss rb)))], .int .i64 0]) ∧ CO W w' p g o og (k + 2) ss rb F' F' V' D' O ∧ (∀ n, gv F' D' n = if n = s.data.toList then some (joinD m T now (joG s F D ss rb)) else gv F D n) ∧ F' = putC ⟨s.data.toList, ((ofN F' s.data.toList).map CE.blk).getD 0⟩ F)
theorem whole_L (now : Int) (G : GD) : (wholeD now G).L = G.L := by
  unfold wholeD
  split
  · rfl
  · rename_i h
    unfold closeD
    rw [enterD_L, moreD_L]
    unfold dropD
    show G.L.filter _ = G.L
    rw [List.filter_eq_self]
    intro x hx
    cases hj : x.j with
    | true => show (!(!x.j)) = true; rw [hj]; rfl
    | false =>
      exact absurd (List.any_eq_true.2 ⟨x, hx, by simp [hj]⟩) h
theorem join_some {m : Int} {T : List ByteArray} {now : Int} {G : GD} (h : joinE m T now G = 0) : (joinD m T now G).L ≠ [] := by
  unfold joinD
  rw [if_pos h]
  have key : ∃ i, posM (joinM m G) (join2D now (join1D m G)).L = some i := by
    rw [pos_join2]
    unfold joinE at h
    split at h
    · unfold joinM join1D
      split at h
      · rename_i hm
        rw [if_pos hm, if_pos hm]
        exact pos_add G
      · rename_i hm
        rw [if_neg hm, if_neg hm]
        cases hp : posM m G.L with
        | none => rw [hp] at h; cases h
        | some i => exact ⟨i, rfl⟩
    · cases h
  obtain ⟨i, hi⟩ := key
  unfold join3D
  rw [hi]
  show (wholeD now (joinAt i T now _)).L ≠ []
  rw [whole_L]
  obtain ⟨x, hx, _⟩ := pos_at hi
  unfold joinAt
  rw [hx]
  show (List.set _ _ _) ≠ []
  intro e
  have h2 := congrArg List.length e
  rw [List.length_set] at h2
  have := (List.getElem?_eq_some_iff.1 hx).1
  simp at h2
  rw [h2] at this
  simp at this
theorem minC_less {F : List CE} {n : List UInt8} {e : CE} (h : ofN F n = some e) : (minC F n).length + 1 ≤ F.length := by
  obtain ⟨hm, hn⟩ := ofN_mem h
  unfold minC
  have : (F.filter fun e => !(e.name == n)).length < F.length := by
    rw [List.length_filter_lt_length_iff_exists]
    exact ⟨e, hm, by simp [hn]⟩
  omega
theorem gv_congr {F : List CE} {D D' : Nat → GD} (h : ∀ e ∈ F, D' e.blk = D e.blk) (n : List UInt8) : gv F D' n = gv F D n := by
  unfold gv
  cases hf : ofN F n with
  | none => rfl
  | some e => exact congrArg some (h e (ofN_mem hf).1)
section
variable {W w w' : World} {p g o og : Nat} {k ss rb : Int} {F : List CE} {V : Nat → Value} {D : Nat → GD} {O : List Of.KE}
/-- A group that is there, or is made. -/
structure Fm (W w : World) (p g o og : Nat) (k ss rb : Int) (F : List CE) (D : Nat → GD) (O : List Of.KE) (s : ByteArray) (B : Nat → Prop) (x : CE) (H : List CE) (V1 : Nat → Value) (D1 : Nat → GD) (w' : World) : Prop where
  co : CO W w' p g o og k ss rb F H V1 D1 O
  mem : x ∈ H
  name : x.name = s.data.toList
  is : D1 x.blk = joG s F D ss rb
  same : ∀ e ∈ F, D1 e.blk = D e.blk
  far : ∀ b, B b → b < w.heap.size → ¬ GrS x.blk (V1 x.blk) b
  bel : Below w.heap.size w w'
  len : (putC x F).length ≤ 20
theorem cfm_c (h : CO W w p g o og k ss rb F F V D O) (hk : 0 ≤ k) (s : ByteArray) (hs : s.size ≤ maxLen) (B : Nat → Prop) (hB : ∀ e ∈ F, ∀ b, B b → ¬ GrS e.blk (V e.blk) b) (hok : ofN F s.data.toList = none → F.length < 20) :
    Calls Try.prog 16 #[.pointer (some ⟨p, 0, none⟩), .string s] w (fun e w' => ∃ x H V1 D1, e = .returned (.tuple #[.pointer (some ⟨x.blk, 0, none⟩), .int .i64 0]) ∧ Fm W w p g o og k ss rb F D O s B x H V1 D1 w') := by
  cases hf : ofN F s.data.toList with
  | some e0 =>
    refine (cfm_some h s hs hf).mono ?_
    rintro en w' ⟨rfl, rfl⟩
    obtain ⟨h1, h2⟩ := ofN_mem hf
    refine ⟨e0, F, V, D, rfl, h, h1, h2, ?_, fun e he => rfl, fun b hb _ => hB e0 h1 b hb, Below.refl _ _, ?_⟩
    · unfold joG gv
      rw [hf]; rfl
    · unfold putC
      rw [insC_len, h2]
      have := minC_less hf
      have := h.few
      omega
  | none =>
    refine (cfm_new h s hs hf (hok hf)).mono ?_
    rintro en w' ⟨rfl, rfl⟩
    have hd := h.later ((Below.refl w.heap.size w).drew)
    have ha := hd.add hk s.data.toList hf
    have hfr : ∀ e ∈ F, e.blk ≠ w.heap.size := fun e he x => by
      have := ((h.grp e he).lt e.blk (.inl rfl)).2
      omega
    refine ⟨⟨s.data.toList, w.heap.size⟩, _, _, _, rfl, ha, List.mem_cons_self, rfl, ?_, fun e he => updF_ne _ _ (hfr e he), fun b _ hb hS => ?_, (Below.refl w.heap.size w).drew.alloc (Nat.le_refl _) _, ?_⟩
    · unfold joG gv
      rw [hf]
      exact updF_same _ _ _
    · rcases hS with e | e
      · exact absurd (show b = w.heap.size from e) (by omega)
      · have e2 : (updF V w.heap.size (.slice none 0 0) w.heap.size).ownBlock = some b := e
        rw [updF_same] at e2
        cases e2
    · have h1 := putC_len ⟨s.data.toList, w.heap.size⟩ F
      have := hok hf
      omega
/-- The group's call Join within it. -/
theorem fm_join {B : Nat → Prop} {s : ByteArray} {x : CE} {H : List CE} {V1 : Nat → Value} {D1 : Nat → GD} {w0 : World} (h : Fm W w0 p g o og k ss rb F D O s B x H V1 D1 w) (hk : k ≤ 999000) (m now : Int) (T : List ByteArray) (A : Option Addr) (c : Nat) (hT : StrIn w0 A T) (hTl : T.length ≤ 140737488351232) (hTz : ∀ s ∈ T, s.size ≤ 281474976710656) (hTB : 0 < T.length → ∀ a, A = some a → B a.block) :
    Calls Try.prog 17 #[.pointer (some ⟨x.blk, 0, none⟩), .int .i64 m, .slice A T.length c, .int .i64 now] w (fun en w' => en = .returned (.tuple #[.int .i64 (if joinE m T now (joG s F D ss rb) = 0 then joinM m (joG s F D ss rb) else 0), .int .i64 (joinE m T now (joG s F D ss rb))]) ∧ (∃ V2, CO W w' p g o og (k + 2) ss rb F H V2 (updF D1 x.blk (joinD m T now (joG s F D ss rb))) O) ∧ ∀ b t cs, Box w b t cs → t ≠ 73 → t ≠ 61 → Box w' b t cs) := by
  have hg := h.co.grp x h.mem
  rw [h.is] at hg
  refine (join_v hg hk m now T A c (hT.below h.bel) hTl hTz (fun hp a ha => h.far _ (hTB hp a ha) ?_)).mono ?_
  · obtain ⟨b, off, e, hlt, _⟩ := hT hp
    rw [e] at ha
    injection ha with ha
    rw [← ha]; exact hlt
  · rintro en w' ⟨rfl, v', h1, h2, h3⟩
    obtain ⟨R, hR⟩ := hg.is
    exact ⟨rfl, ⟨_, h.co.call h.mem h1 h2 h3 (by omega)⟩, fun b t cs hb ht1 ht2 => hb.off h2 (grS_box hR hb ht1 ht2)⟩
end
set_option maxRecDepth 100000 in
theorem join_result {w : World} (g : Nat) {v0 v1 v2 e : Value} (h : Box w g 28 #[v0, v1, v2]) (tmps : Array Value) (ht : (tmps[10]?).getD undef = .pointer (some ⟨g, 0, none⟩)) (he : (tmps[11]?).getD undef = e) :
    (results Try.f7 tmps).run Try.prog w = .ok (.tuple #[.agg #[v0, v1, v2], e]) w := by
  have c0 := (h.cell 0).trans (show _ = some v0 from rfl)
  have c1 := (h.cell 1).trans (show _ = some v1 from rfl)
  have c2 := (h.cell 2).trans (show _ = some v2 from rfl)
  simp [results, Try.results7, go_sem, ht, he, c0, c1, c2]
theorem jn3 {w : World} {b : Nat} {t : TypeId} {v0 v1 v2 : Value} (h : Box w b t #[v0, v1, v2]) : w.cell? ⟨b, 0, none⟩ = some v0 ∧ w.cell? ⟨b, 1, none⟩ = some v1 ∧ w.cell? ⟨b, 2, none⟩ = some v2 ∧ b < w.heap.size ∧ w.frozen? ⟨b, 0, none⟩ = false ∧ w.frozen? ⟨b, 1, none⟩ = false ∧ w.frozen? ⟨b, 2, none⟩ = false :=
  ⟨(h.cell 0).trans rfl, (h.cell 1).trans rfl, (h.cell 2).trans rfl, h.lt, h.frozen 0, h.frozen 1, h.frozen 2⟩
theorem co_cell_later {w w' : World} {a : Addr} {v : Value} (h : w.cell? a = some v) (hl : a.block < w.heap.size) (hb : Below w.heap.size w w') : w'.cell? a = some v := (hb.cell (p := a) hl).trans h
theorem co_cell_grown {w w' : World} {a : Addr} {v : Value} {g : Nat} (h : w.cell? a = some v) (hl : a.block < w.heap.size) (hg : w.grownBy w' (some g)) (hne : a.block ≠ g) : w'.cell? a = some v := ((grown_off hg).cell hl hne).trans h
theorem co_map_later {w w' : World} {k : TypeId} {R : Value → Option (DataW Unit × List MemPlace)} {b n : Nat} {D : DataW Unit} (h : w.ownsMap Try.prog k R b n D) (hb : Below w.heap.size w w') : w'.ownsMap Try.prog k R b n D := map_off h (Off.of_below (fun _ => False) hb) (fun x => x)
theorem GotJ.bad {W w' : World} {p g o og : Nat} {k ss rb : Int} {F : List CE} {V : Nat → Value} {D : Nat → GD} {O : List Of.KE} {s : ByteArray} {m now : Int} {T : List ByteArray} (h : CO W w' p g o og k ss rb F F V D O) {e : Int} (hE : joE s m T now F D ss rb = e) (he : e ≠ 0) : GotJ W p g o og k ss rb F D O s m T now (.returned (.tuple #[.agg #[.int .i64 0, .int .i64 0, .int .i64 0], .int .i64 e])) w' :=
  .inl ⟨by rw [hE]; exact he, by rw [hE], V, D, h.bump (by omega), fun n => rfl⟩
set_option maxHeartbeats 8000000 in
set_option maxRecDepth 100000 in
theorem cjoin_c {W w : World} {p g o og : Nat} {k ss rb : Int} {F : List CE} {V : Nat → Value} {D : Nat → GD} {O : List Of.KE} (h : CO W w p g o og k ss rb F F V D O) (hk : 0 ≤ k ∧ k ≤ 999000) (s : ByteArray) (hs : s.size ≤ 140737488351232) (m now : Int) (T : List ByteArray) (A : Option Addr) (c : Nat) (hT : StrIn w A T) (hTl : T.length ≤ 140737488351232) (hTz : ∀ s ∈ T, s.size ≤ 281474976710656) (hTS : 0 < T.length → ∀ a, A = some a → ∀ e ∈ F, ¬ GrS e.blk (V e.blk) a.block) :
    Calls Try.prog 7 #[.pointer (some ⟨p, 0, none⟩), .string s, .int .i64 m, .slice A T.length c, .int .i64 now] w (GotJ W p g o og k ss rb F D O s m T now) := by
  have hsm : s.size ≤ maxLen := by unfold maxLen; omega
  have hA : Below w.heap.size w (w.alloc (.cells #[.int .i64 0, .int .i64 0, .int .i64 0] 28)) := (Below.refl _ _).alloc (Nat.le_refl _) _
  have HH := Lib.hid (h.later hA)
  have HB := Lib.hid (Box.new w 28 #[.int .i64 0, .int .i64 0, .int .i64 0])
  by_cases h1 : s.size < 1
  · have h1' : (s.size : Int) < 1 := by omega
    have hE : joE s m T now F D ss rb = 1 := by unfold joE; rw [if_pos (.inl h1)]
    have HE := Lib.hid hE
    clear h hA hE
    go_enter Try.func7, Try.ntmps7
    go_wp2_with fail
    exact bodyPost_ret (join_result w.heap.size HB.out _ rfl rfl) rfl (GotJ.bad HH.out HE.out (by decide))
  by_cases h2 : 100 < s.size
  · have h1' : ¬ (s.size : Int) < 1 := by omega
    have h2' : (100 : Int) < (s.size : Int) := by omega
    have hE : joE s m T now F D ss rb = 1 := by unfold joE; rw [if_pos (.inr h2)]
    have HE := Lib.hid hE
    clear h hA hE
    go_enter Try.func7, Try.ntmps7
    go_wp2_with fail
    exact bodyPost_ret (join_result w.heap.size HB.out _ rfl rfl) rfl (GotJ.bad HH.out HE.out (by decide))
  have h1' : ¬ (s.size : Int) < 1 := by omega
  have h2' : ¬ (100 : Int) < (s.size : Int) := by omega
  by_cases hfull : ofN F s.data.toList = none ∧ 20 ≤ F.length
  · have hE : joE s m T now F D ss rb = 5 := by
      unfold joE gv
      rw [if_neg (by omega), hfull.1]
      show (if 20 ≤ F.length then (5 : Int) else _) = _
      rw [if_pos hfull.2]
    have HE := Lib.hid hE
    have cf := cfm_full HH.out s hsm hfull.1 hfull.2
    clear h hA hE hfull
    go_enter Try.func7, Try.ntmps7
    go_wp2_with fail
    with_reducible refine cf.mono ?_
    rintro en w1 ⟨rfl, rfl⟩
    obtain ⟨r0, r1, r2, rl, rf0, rf1, rf2⟩ := jn3 HB.out
    go_wp2_with fail
    exact bodyPost_ret (join_result w.heap.size HB.out _ rfl rfl) rfl (GotJ.bad HH.out HE.out (by decide))
  have cf := cfm_c HH.out hk.1 s hsm (fun b => 0 < T.length ∧ ∃ a, A = some a ∧ b = a.block) (fun e he b hb => by
    obtain ⟨hp, a, ha, rfl⟩ := hb
    exact hTS hp a ha e he) (fun hn => by
    by_cases hl : F.length < 20
    · exact hl
    · exact absurd ⟨hn, by omega⟩ hfull)
  have hjE : joE s m T now F D ss rb = joinE m T now (joG s F D ss rb) := by
    unfold joE joG
    rw [if_neg (by omega)]
    unfold gv
    cases hf : ofN F s.data.toList with
    | some e => rfl
    | none =>
      show (if 20 ≤ F.length then (5 : Int) else _) = _
      rw [if_neg (fun hl => hfull ⟨hf, hl⟩)]
      rfl
  have HJE := Lib.hid hjE
  have HT := Lib.hid (hT.below hA)
  have HS : Hid (s.data.toList.length ≤ 100) := Lib.hid (by
    have : s.data.toList.length = s.size := Array.length_toList
    omega)
  have hcl := fun w => clone_c s w (by omega)
  have HWB : Hid (W.heap.size ≤ w.heap.size) := Lib.hid h.bel.size
  clear h hA hjE hT hTS hfull
  go_enter Try.func7, Try.ntmps7
  go_wp2_with fail
  with_reducible refine cf.mono ?_
  rintro en w1 ⟨x, H, V1, D1, rfl, hF⟩
  have cj := fm_join hF hk.2 m now T A c HT.out hTl hTz (fun hp a ha => ⟨hp, a, ha, rfl⟩)
  have HB1 := Lib.hid (HB.out.later hF.bel)
  have HF := Lib.hid hF
  clear cf hF
  go_wp2_with fail
  with_reducible refine cj.mono ?_
  rintro en w2 ⟨rfl, ⟨V2, hC⟩, hkeep⟩
  have hB2 := hkeep _ _ _ HB1.out (by decide) (by decide)
  have HB2 := Lib.hid hB2
  have HC := Lib.hid hC
  clear cj hkeep hC
  by_cases hE : joinE m T now (joG s F D ss rb) = 0
  · rw [hE, if_pos rfl]
    obtain ⟨c0, c1, c2, c3, cl⟩ := HC.out.is.cells
    have hmap := HC.out.is.map
    have hpg : p ≠ g := box_ne_map HC.out.is.box hmap
    obtain ⟨U, hU, hV⟩ := upd_fun g F.length F s x HF.out.name hsm (by have := HC.out.few; unfold maxLen; omega)
    have HV := Lib.hid hV
    have HE := Lib.hid hE
    clear hV hE c0 c1 c3
    go_wp2_with fail
    go_region_held3 (fun wq => wq.cell? ⟨p, 2, none⟩ = some (.map (some g)))
      (first | exact c2 | exact co_cell_later (w := w2.drew) c2 cl (by assumption) | exact co_cell_grown (co_cell_later (w := w2.drew) c2 cl (by assumption)) (Nat.lt_of_lt_of_le cl (Below.size (w := w2.drew) (by assumption))) (HV.out _ (by assumption)).2 hpg)
      (first | ((with_reducible refine (hcl _).mono ?_); rintro en w5 ⟨rfl, hb5⟩; have own5 := co_map_later hmap.drew hb5))
    all_goals
      obtain ⟨v1, v2⟩ := HV.out _ own5
      have hb2 : Below w2.heap.size w2 w5 := (Below.refl w2.heap.size w2).drew.trans hb5
      have hC5 := HC.out.later hb2
      have hP := hC5.put HF.out.mem (by rw [HF.out.name]; exact HS.out) HF.out.len v1 v2
      have hg := hP.grp x (putC_mem.2 (.inl rfl))
      rw [updF_same] at hg
      have cv := view_v hg
      have hbx := box_grown (HB2.out.later hb2) v2 (box_ne_map HB2.out hmap)
      have HP := Lib.hid hP
      have HBX := Lib.hid hbx
      clear v1 v2 hb2 hC5 hP hg hbx hb5 own5 HB2 HC HB1 hU c2 cl hmap hpg HB HH HV HT
      go_wp2_with fail
      with_reducible refine cv.mono ?_
      rintro en w7 ⟨v7, R7, rfl, hr7, _, ha7, hb7⟩
      obtain ⟨A7, c7, rfl⟩ := own_slice hr7
      have hL := join_some HE.out
      obtain ⟨y0, l0, hL0⟩ : ∃ y0 l0, (joinD m T now (joG s F D ss rb)).L = y0 :: l0 := by
        cases hq : (joinD m T now (joG s F D ss rb)).L with
        | nil => exact absurd hq hL
        | cons a l => exact ⟨a, l, rfl⟩
      have hlead : leadM (joinD m T now (joG s F D ss rb)) = y0.n := by unfold leadM; rw [hL0]
      obtain ⟨a0, hR0, had⟩ : ∃ a0, R7[0]? = some a0 ∧ a0.d = y0 := by
        rw [hL0] at ha7
        cases R7 with
        | nil => cases ha7
        | cons a l =>
          rw [List.map_cons] at ha7
          injection ha7 with h1 _
          exact ⟨a, rfl, h1⟩
      have hpos : 0 < R7.length := (List.getElem?_eq_some_iff.1 hR0).1
      have hA7 : Below w7.heap.size w7 (w7.alloc (.cells #[.int .i64 (joinD m T now (joG s F D ss rb)).ph, .int .i64 (joinD m T now (joG s F D ss rb)).gn, .int .i64 (joinD m T now (joG s F D ss rb)).nx, .int .i64 (joinD m T now (joG s F D ss rb)).un, .slice A7 R7.length c7] 38)) := (Below.refl _ _).alloc (Nat.le_refl _) _
      have hr8 := own_below hr7 hA7
      obtain ⟨g7, rfl, hg7, _, _, hc7⟩ := own_in hr8 hpos
      have u0 := hc7 _ _ (mvR_at hR0).1
      rw [Nat.zero_mul, had, ← hlead] at u0
      obtain ⟨⟨q0, q1, q2, q3, q4⟩, ql, _⟩ := vw5 (Box.new w7 38 #[.int .i64 (joinD m T now (joG s F D ss rb)).ph, .int .i64 (joinD m T now (joG s F D ss rb)).gn, .int .i64 (joinD m T now (joG s F D ss rb)).nx, .int .i64 (joinD m T now (joG s F D ss rb)).un, .slice (some ⟨g7, 0, none⟩) R7.length c7])
      have HP8 := Lib.hid ((HP.out.later hb7).later hA7)
      have HB8 := Lib.hid ((HBX.out.later hb7).later hA7)
      have HJD : Hid True := Lib.hid trivial
      obtain ⟨r0, r1, r2, rl, rf0, rf1, rf2⟩ := jn3 HB8.out
      have hposi : (0 : Int) < (R7.length : Int) := by omega
      clear cv hr7 hb7 hA7 hr8 hc7 ha7 hL hL0 had hlead hR0 HP HBX
      generalize hGD : joinD m T now (joG s F D ss rb) = GD at *
      generalize hBW : (w7.alloc (.cells #[.int .i64 GD.ph, .int .i64 GD.gn, .int .i64 GD.nx, .int .i64 GD.un, .slice (some ⟨g7, 0, none⟩) R7.length c7] 38)) = w8 at *
      go_wp2_with fail
      go_region
      all_goals
        go_wp2_with fail
        have hb9 := (((HB8.out.set 0 (.int .i64 (joinM m (joG s F D ss rb)))).set 1 (.int .i64 GD.gn)).set 2 (.int .i64 (leadM GD))).drew
        have o9 := (((Off.one w8 ⟨w.heap.size, 0, none⟩ (.int .i64 (joinM m (joG s F D ss rb)))).set (p := ⟨w.heap.size, 1, none⟩) (.inl (show w.heap.size = w.heap.size from rfl)) (.int .i64 GD.gn)).set (p := ⟨w.heap.size, 2, none⟩) (.inl (show w.heap.size = w.heap.size from rfl)) (.int .i64 (leadM GD))).drew
        refine bodyPost_ret (join_result (e := .int .i64 0) w.heap.size hb9 _ rfl rfl) rfl ?_
        have hrise := HF.out.co.is.rise
        have hnm := HF.out.name
        refine .inr ⟨by rw [HJE.out]; exact HE.out, putC x F, V2, _, by rw [hGD], HP8.out.box HB8.out (by decide) HWB.out o9, fun n => ?_, ?_⟩
        · unfold gv
          rw [ofN_put hrise, hnm, hGD]
          split
          · show some (updF D1 x.blk GD x.blk) = _
            rw [updF_same]
          · rename_i hn
            cases hf : ofN F n with
            | none => rfl
            | some e0 =>
              obtain ⟨h3, h4⟩ := ofN_mem hf
              show some (updF D1 x.blk GD e0.blk) = some (D e0.blk)
              rw [updF_ne, HF.out.same e0 h3]
              intro hb
              have h5 := HF.out.co.nd e0 (HF.out.co.sub e0 h3) x HF.out.mem hb
              rw [h4, hnm] at h5
              exact hn h5
        · rw [ofN_put hrise, hnm, if_pos rfl]
          show putC x F = putC ⟨s.data.toList, x.blk⟩ F
          rw [← hnm]
  · rw [if_neg hE]
    have hE' : (joinE m T now (joG s F D ss rb) == 0) = false := beq_eq_false_iff_ne.2 hE
    obtain ⟨r0, r1, r2, rl, rf0, rf1, rf2⟩ := jn3 HB2.out
    have HE := Lib.hid hE
    clear hE
    go_wp2_with fail
    have hb5 := ((HB2.out.set 0 (.int .i64 0)).set 1 (.int .i64 0)).set 2 (.int .i64 0)
    have o5 := ((Off.one w2 ⟨w.heap.size, 0, none⟩ (.int .i64 0)).set (p := ⟨w.heap.size, 1, none⟩) (.inl (show w.heap.size = w.heap.size from rfl)) (.int .i64 0)).set (p := ⟨w.heap.size, 2, none⟩) (.inl (show w.heap.size = w.heap.size from rfl)) (.int .i64 0)
    refine bodyPost_ret (join_result (e := .int .i64 (joinE m T now (joG s F D ss rb))) w.heap.size hb5 _ rfl rfl) rfl ?_
    refine .inl ⟨by rw [HJE.out]; exact HE.out, by rw [HJE.out], V2, _, (HC.out.box HB2.out (by decide) HWB.out o5).shut, fun n => gv_congr (fun e he => ?_) n⟩
    by_cases hb : e.blk = x.blk
    · rw [hb, updF_same]
      have h6 := HF.out.is
      have h7 := HF.out.same e he
      rw [hb] at h7
      rw [← h7, h6]
      unfold joinD
      rw [if_neg HE.out]
    · rw [updF_ne _ _ hb]
      exact HF.out.same e he
end Go.Proofs.Ytlokhhjhckiloaa
