/- coord: the offsets' table of the call's own: New, Get, Commit. No condition. -/
import Derived.Test.YtlokhhjhckiloaaCOfCi
namespace Go.Proofs.Ytlokhhjhckiloaa.Of
open Go.RowKit Go.Maps Go.ChangeMaps Go.WideMaps
set_option linter.unusedVariables false
/-- May an entry be? -/
def mayE (e : KE) : Bool := mayK e.1 && witB e.2 0 1099511627776
/-- Entries that may stand in a table with so much room. -/
structure FOk (room : Int) (F : List KE) : Prop where
  may : ∀ e ∈ F, mayE e = true
  len : (F.length : Int) ≤ room
  room : room ≤ 10000
theorem FOk.many {room : Int} {F : List KE} (h : FOk room F) : F.length ≤ 1000000 := by have := h.len; have := h.room; omega
theorem FOk.ky {room : Int} {F : List KE} (h : FOk room F) : ∀ e ∈ F, mayK e.1 = true := fun e he => by have := h.may e he; unfold mayE at this; simp only [Bool.and_eq_true] at this; exact this.1
theorem FOk.keys {room : Int} {F : List KE} (h : FOk room F) : ∀ e ∈ F, KyOk e.1 := fun e he => mayK_ok (h.ky e he)
theorem FOk.sub {room : Int} {F G : List KE} (h : FOk room F) (hs : ∀ e ∈ G, e ∈ F) (hl : G.length ≤ F.length) : FOk room G := ⟨fun e he => h.may e (hs e he), by have := h.len; omega, h.room⟩
theorem FOk.nil {room : Int} (h0 : 0 ≤ room) (h : room ≤ 10000) : FOk room [] := ⟨by simp, by simpa using h0, h⟩
theorem minK_less {F : List KE} {n : List UInt8} {e : KE} (h : ofK F n = some e) : (minK F n).length + 1 ≤ F.length := by
  obtain ⟨hm, hn⟩ := ofK_mem h
  unfold minK
  have : (F.filter fun e => !(kyB e.1 == n)).length < F.length := by
    rw [List.length_filter_lt_length_iff_exists]
    exact ⟨e, hm, by simp [hn]⟩
  omega
theorem FOk.commit {room : Int} {F : List KE} (h : FOk room F) (k : KY) (a : Int) : FOk room (coS room F k a) := by
  unfold coS
  split
  · rename_i hr
    unfold coR at hr
    split at hr
    · rename_i hm
      simp only [Bool.and_eq_true] at hm
      split at hr
      · rename_i h2
        refine ⟨fun e he => ?_, ?_, h.room⟩
        · rcases putK_mem.1 he with rfl | ⟨he, _⟩
          · unfold mayE; rw [hm.1, hm.2]; rfl
          · exact h.may e he
        · unfold putK
          rw [insK_len]
          have h3 := minK_len F (kyB k)
          have h4 := h.len
          simp only [Bool.or_eq_true, decide_eq_true_eq] at h2
          rcases h2 with h2 | h2
          · obtain ⟨e, he⟩ := Option.isSome_iff_exists.1 h2
            have h5 := minK_less he
            show (((minK F (kyB k)).length + 1 : Nat) : Int) ≤ room
            omega
          · show (((minK F (kyB k)).length + 1 : Nat) : Int) ≤ room
            omega
      · omega
    · omega
  · exact h
theorem FOk.out {room : Int} {F : List KE} (h : FOk room F) (n : List UInt8) : FOk room (minK F n) := h.sub (fun e he => (minK_mem.1 he).1) (minK_len F n)
/-- A table of the call's own. -/
structure OT (W0 : World) (p g : Nat) (room : Int) (F : List KE) (w : World) : Prop where
  is : OfIs w p g room F
  hp : W0.heap.size ≤ p
  hg : W0.heap.size ≤ g
  ok : FOk room F
theorem OT.later {W0 w w' : World} {p g : Nat} {room : Int} {F : List KE} (h : OT W0 p g room F w) (hb : Below w.heap.size w w') : OT W0 p g room F w' := ⟨h.is.later hb, h.hp, h.hg, h.ok⟩
theorem OT.off {W0 w w' : World} {p g : Nat} {room : Int} {F : List KE} {S : Nat → Prop} (h : OT W0 p g room F w) (ho : Off S w w') (h1 : ¬ S p) (h2 : ¬ S g) : OT W0 p g room F w' := ⟨h.is.off ho h1 h2, h.hp, h.hg, h.ok⟩
/-- What a call that writes leaves. -/
structure Wr (W0 : World) (p g : Nat) (room : Int) (G : List KE) (w w' : World) : Prop where
  ot : OT W0 p g room G w'
  off : Off (fun i => i = g) w w'
theorem OT.below {W0 w w' : World} {p g : Nat} {room : Int} {F G : List KE} (h : OT W0 p g room F w) (hw : Wr W0 p g room G w w') (hb : Below W0.heap.size W0 w) : Below W0.heap.size W0 w' :=
  hb.trans (hw.off.below hb.size (fun k e => by have e : k = g := e; have := h.hg; omega))
theorem new_is (W : World) (n : Int) : OfIs ((W.alloc (.map #[] 0)).alloc (.cells #[.int .i64 n, .map (some W.heap.size)] 76)) (W.heap.size + 1) W.heap.size n [] := by
  have hb := Box.new (W.alloc (.map #[] 0)) 76 #[.int .i64 n, .map (some W.heap.size)]
  rw [World.size_alloc] at hb
  have hm := World.ownsMap_made W Try.prog 68 tokI
  exact ⟨hb, map_off hm (Off.of_below (fun _ => False) ((Below.refl _ _).alloc (Nat.le_refl _) _)) (fun x => x), List.Pairwise.nil⟩
def GotNew (W0 : World) (n : Int) (W : World) (e : Ending) (w' : World) : Prop := ∃ p g, e = .returned (.tuple #[.pointer (some ⟨p, 0, none⟩), .int .i64 0]) ∧ OT W0 p g n [] w' ∧ W.heap.size ≤ g ∧ W.heap.size ≤ p ∧ p < w'.heap.size ∧ g < w'.heap.size ∧ Below W.heap.size W w'
theorem new_v (W0 W : World) (n : Int) (h1 : 1 ≤ n) (h2 : n ≤ 10000) (hz : W0.heap.size ≤ W.heap.size) : Calls Try.prog 15 #[.int .i64 n] W (GotNew W0 n W) := by
  refine (new_ok n (by unfold witB; rw [decide_eq_true h1, decide_eq_true h2]; rfl) W).mono ?_
  rintro e w' ⟨rfl, rfl⟩
  refine ⟨W.heap.size + 1, W.heap.size, rfl, ⟨new_is W n, by omega, hz, FOk.nil (by omega) h2⟩, Nat.le_refl _, by omega, by simp, by simp; omega, ?_⟩
  exact ((Below.refl W.heap.size W).alloc (Nat.le_refl _) _).trans (((Below.refl _ _).alloc (Nat.le_refl _) _).mono (by simp))
theorem get_v {W0 W : World} {p g : Nat} {room : Int} {F : List KE} (h : OT W0 p g room F W) (k : KY) (hk : KyOk k) :
    Calls Try.prog 25 #[.pointer (some ⟨p, 0, none⟩), .agg #[.string k.g, .string k.t, .int .i64 k.i]] W (fun e w' => e = .returned (.tuple #[.int .i64 (geR F k).1, .bool (geR F k).2]) ∧ Below W.heap.size W w') := oget_c p g room F k W h.is hk
theorem commit_v {W0 W : World} {p g : Nat} {room : Int} {F : List KE} (h : OT W0 p g room F W) (k : KY) (a : Int) :
    Calls Try.prog 24 #[.pointer (some ⟨p, 0, none⟩), .agg #[.string k.g, .string k.t, .int .i64 k.i], .int .i64 a] W (fun e w' => e = .returned (.int .i64 (coR room F k a)) ∧ Wr W0 p g room (coS room F k a) W w') :=
  (commit_c p g room F k a W h.is h.ok.many).mono fun e w' ⟨he, h1, h2⟩ => ⟨he, ⟨h1, h.hp, h.hg, h.ok.commit k a⟩, h2⟩
end Go.Proofs.Ytlokhhjhckiloaa.Of
