/- A disk that a law made: what each call leaves of it, as the document has it. No condition. -/
import Derived.Test.YtpdimmkacjilgaaDkCrash
namespace Go.Proofs.Ytpdimmkacjilgaa
open Go.RowKit Go.Maps Go.ChangeMaps Go.WideMaps Go.Shelf
set_option linter.unusedVariables false
def crashA (a : Ab) (keep : List Int) : Ab := ⟨a.room, false, 0, (tearL keep 0 a.L).1⟩
theorem crash_do (p : Nat) (a : Ab) (S : Nat → Prop) (W : World) (h : Is W p a S) (hlen : a.L.length ≤ 1000000) (ad : Option Addr) (c : Nat) (keep : List Int) (hkl : keep.length ≤ 9223372036854775807) (hk : KeepIn W S ad c keep) :
    Calls Try.prog 25 #[dp p, .slice ad keep.length c] W (Does W p S (.int .i64 ((tearL keep 0 a.L).2 : Int)) (crashA a keep)) := by
  obtain ⟨d, hR, h1, h2, h3, h4, h5, h6⟩ := h
  have hl : d.F.length ≤ 1000000 := by rw [← h4] at hlen; unfold absL at hlen; simpa using hlen
  refine (crash_c p d W hR hl ad c keep hkl ⟨hk.1, fun hp => ?_⟩).mono ?_
  · obtain ⟨b, off, q1, q2, q3, q4⟩ := hk.2 hp
    exact ⟨b, off, q1, q2, fun hf => q3 (h6 b hf), q4⟩
  · rintro e w' ⟨rfl, d', R, q1, q2, q3, q4, q5, q6, q7⟩
    refine ⟨by rw [h4], ⟨d', R, q2.trans h1, q3, q4, by rw [q1, h4]; rfl, by omega, fun k hk => ?_⟩, q6.mono fun k _ hk => h6 k hk⟩
    rcases q7 k hk with hk | hk
    · exact .inl (h6 k hk)
    · exact .inr hk
/-- A disk that was made behind W, in w. -/
def At (W : World) (p : Nat) (a : Ab) (w : World) : Prop := Is w p a (fun k => W.heap.size ≤ k) ∧ Below W.heap.size W w
theorem Is.tight {w : World} {p : Nat} {a : Ab} {S : Nat → Prop} (h : Is w p a S) : Is w p a (fun k => S k ∧ k < w.heap.size) := by
  obtain ⟨d, hR, h1, h2, h3, h4, h5, h6⟩ := h
  exact ⟨d, hR, h1, h2, h3, h4, h5, fun k hk => ⟨h6 k hk, foot_lt hR hk⟩⟩
section
variable {W w w' : World} {p : Nat} {a a' : Ab} {S : Nat → Prop} {v : Value} {e : Ending}
theorem At.later (h : At W p a w) (hb : Below w.heap.size w w') : At W p a w' := ⟨h.1.later hb, h.2.trans (hb.mono h.2.size)⟩
theorem at_does (h : At W p a w) (hS : ∀ k, S k → W.heap.size ≤ k) (hd : Does w p S v a' e w') : e = .returned v ∧ At W p a' w' := by
  obtain ⟨rfl, hI, ho⟩ := hd
  have hs := h.2.size
  refine ⟨rfl, hI.mono fun k hk => ?_, h.2.trans (ho.below hs hS)⟩
  rcases hk with hk | hk
  · exact hS k hk
  · omega
theorem at_new (n : Int) (h : 1 ≤ n ∧ n ≤ 4194304) (hb : Below W.heap.size W w) :
    Calls Try.prog 9 #[.int .i64 n] w (fun e w' => e = .returned (.tuple #[dp w.heap.size, .int .i64 0]) ∧ At W w.heap.size ⟨n, false, 0, []⟩ w') := by
  refine (new_do n h w).mono ?_
  rintro e w' ⟨rfl, h1, h2⟩
  have := hb.size
  exact ⟨rfl, h1.mono fun k hk => by omega, hb.trans (h2.mono hb.size)⟩
theorem at_app (n s : ByteArray) (h : At W p a w) (hn : n.size ≤ 140737488351232) (hs : s.size ≤ 281474976710656) (hlen : a.L.length ≤ 1000000) :
    Calls Try.prog 15 #[dp p, .string n, .string s] w (fun e w' => e = .returned (.int .i64 (appE a n s)) ∧ At W p (appA a n s) w') :=
  (app_do p a _ w n s hn hs h.1 hlen).mono fun _ _ hd => at_does h (fun _ x => x) hd
theorem at_sync (n : ByteArray) (h : At W p a w) (hn : n.size ≤ maxLen) :
    Calls Try.prog 16 #[dp p, .string n] w (fun e w' => e = .returned (.int .i64 (seeE a n.data.toList)) ∧ At W p (syncA a n.data.toList) w') :=
  (sync_do p a _ w n hn h.1).mono fun _ _ hd => at_does h (fun _ x => x) hd
theorem at_drop (n : ByteArray) (h : At W p a w) (hn : n.size ≤ maxLen) :
    Calls Try.prog 19 #[dp p, .string n] w (fun e w' => e = .returned (.int .i64 (seeE a n.data.toList)) ∧ At W p (dropA a n.data.toList) w') :=
  (drop_do p a _ w n hn h.1).mono fun _ _ hd => at_does h (fun _ x => x) hd
theorem at_fuse (n : Int) (h : At W p a w) (h0 : -1 ≤ n) (hx : n ≤ 9223372036854775807) :
    Calls Try.prog 20 #[dp p, .int .i64 n] w (fun e w' => e = .returned (.int .i64 0) ∧ At W p (fuseA a n) w') :=
  (fuse_do p a _ w h.1 n h0 hx).mono fun _ _ hd => at_does h (fun _ x => x) hd
theorem at_crash (ad : Option Addr) (c : Nat) (keep : List Int) (h : At W p a w) (hI : Is w p a S) (hS : ∀ k, S k → W.heap.size ≤ k) (hlen : a.L.length ≤ 1000000) (hkl : keep.length ≤ 9223372036854775807) (hk : KeepIn w S ad c keep) :
    Calls Try.prog 25 #[dp p, .slice ad keep.length c] w (fun e w' => e = .returned (.int .i64 ((tearL keep 0 a.L).2 : Int)) ∧ At W p (crashA a keep) w') :=
  (crash_do p a S w hI hlen ad c keep hkl hk).mono fun _ _ hd => at_does h hS hd
end
theorem keep_new (w : World) (t : TypeId) (S : Nat → Prop) (hS : ¬ S w.heap.size) : KeepIn (w.alloc (.cells #[.int .i64 1] t)) S (some ⟨w.heap.size, 0, none⟩) 1 [1] := by
  refine ⟨fun n hn => ?_, fun _ => ⟨w.heap.size, 0, rfl, by simp, hS, fun j hj => ?_⟩⟩
  · have : n = 1 := by simpa using hn
    omega
  · have : j = 0 := by simp at hj; omega
    subst this
    exact ((Box.new w t #[.int .i64 1]).cell 0).trans rfl
end Go.Proofs.Ytpdimmkacjilgaa
