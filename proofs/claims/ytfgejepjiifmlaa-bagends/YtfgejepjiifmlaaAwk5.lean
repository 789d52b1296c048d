/-
  Queues and sets side by side; the contract of awake.
-/
import Derived.Test.YtfgejepjiifmlaaSetI
namespace Go.Proofs.Ytfgejepjiifmlaa
set_option linter.unusedVariables false
open Go.ChangeShapes Go.WideShapes Go.ChangeAt Go.RowKit Go.Maps

theorem IsS.tags {n₀ b : Nat} {v : Value} {mp : Option Nat} {W : World} {L : List Int} (h : IsS n₀ W b v mp L) (k : Nat) (o : Obj) (hk : W.heap[k]? = some o) (hs : SS b v mp k o) :
    n₀ ≤ k ∧ tag o ≠ some 25 ∧ tag o ≠ some 59 := by
  rcases hs with rfl | e | e
  · rw [h.box] at hk
    injection hk with hk
    subst hk
    exact ⟨h.low, (by intro e; injection e with e; exact absurd e (by decide)), (by intro e; injection e with e; exact absurd e (by decide))⟩
  · rcases h.row.2 with ⟨rfl, _⟩ | ⟨g, cap, cur, rfl, hb, hg, _⟩
    · cases e
    · obtain rfl : g = k := by simpa [Value.ownBlock] using e
      rw [hg] at hk
      injection hk with hk
      subst hk
      exact ⟨hb, (by intro e; injection e with e; exact absurd e (by decide)), (by intro e; injection e with e; exact absurd e (by decide))⟩
  · subst e
    obtain ⟨hn, es, clock, hmb, _⟩ := h.map
    rw [hmb] at hk
    injection hk with hk
    subst hk
    exact ⟨hn, by simp [tag], by simp [tag]⟩
theorem IsQ.of_set {n₀ n₁ b bs : Nat} {v : Value} {mp : Option Nat} {W W' : World} {L : List Int} {ks : List (Nat × Int)} (h : IsQ n₀ W b ks) (s : IsS n₁ W bs v mp L) (hk : Kept (SS bs v mp) W W') : IsQ n₀ W' b ks :=
  h.kept (S := fun _ o => tag o ≠ some 25 ∧ tag o ≠ some 59) (hk.mono (fun k o e hs => (s.tags k o e hs).2)) (fun _ _ s => s)
theorem IsS.of_queue {n₀ n₁ bs : Nat} {v : Value} {mp : Option Nat} {W W' : World} {L : List Int} (s : IsS n₁ W bs v mp L) (hk : Kept (QS n₀) W W') : IsS n₁ W' bs v mp L :=
  s.kept (S := fun k _ => k ≠ bs ∧ v.ownBlock ≠ some k ∧ mp ≠ some k) (hk.mono (fun k o e hs => by
    refine ⟨fun e' => ?_, fun e' => ?_, fun e' => ?_⟩
    · have := s.tags k o e (.inl e'); exact hs.2.elim this.2.1 this.2.2
    · have := s.tags k o e (.inr (.inl e')); exact hs.2.elim this.2.1 this.2.2
    · have := s.tags k o e (.inr (.inr e')); exact hs.2.elim this.2.1 this.2.2)) (fun _ _ s => s)
theorem IsS.below {n₀ b : Nat} {v : Value} {mp : Option Nat} {W W' : World} {L : List Int} (s : IsS n₀ W b v mp L) (hn : n₀ ≤ W.heap.size) (hk : Kept (SS b v mp) W W') : Below n₀ W W' :=
  hk.below hn (fun k o e hs => (s.tags k o e hs).1)
theorem QS.below {n₀ : Nat} {W W' : World} (hn : n₀ ≤ W.heap.size) (hk : Kept (QS n₀) W W') : Below n₀ W W' := hk.below hn (fun k o _ hs => hs.1)

set_option maxHeartbeats 1000000 in
theorem awake_any (w : World) : Calls Try.prog 15 #[] w fun e w' => e = .returned (.bool true) ∧ Bel w w' := by
  have q0 := IsQ.new w.heap.size w (Nat.le_refl _)
  have B0 : Below w.heap.size w (w.alloc (.cells #[.pointer none, .pointer none, .int .i64 0] 25)) := (Below.refl _ _).alloc (Nat.le_refl _) _
  have i3 : inB [] 3 = false := rfl
  have i33 : inB [3] 3 = true := by decide
  go_enter Try.func15, Try.ntmps15
  go_wp2_with (first
    | (go_at_call 11; refine (push_any w.heap.size w.heap.size [(_, 1)] 2 _ B1.size (by simp) q1).mono ?_; rintro e w2 ⟨rfl, q2, k2⟩; have B2 := B1.trans (QS.below B1.size k2))
    | (go_at_call 11; refine (push_any w.heap.size w.heap.size [] 1 _ B0.size (by simp) q0).mono ?_; rintro e w1 ⟨rfl, q1, k1⟩; have B1 := B0.trans (QS.below B0.size k1))
    | (go_at_call 9; refine (pop_cons w.heap.size w.heap.size _ 1 [(_, 2)] _ (by simp) q2).mono ?_; rintro e w3 ⟨rfl, q3, k3⟩; have B3 := B2.trans (QS.below B2.size k3); have s3 := IsS.new w.heap.size w3 B3.size; have B4 := B3.alloc B3.size (.cells #[.slice none 0 0, .map none] 39); have q4 := q3.bel ((Bel.refl w3).alloc (.cells #[.slice none 0 0, .map none] 39)))
    | (go_at_call 18; refine (add_old w.heap.size w3.heap.size _ _ [3] 3 (by decide) _ s5 i33).mono ?_; rintro e w6 ⟨rfl, b6⟩; have B6 := B5.trans (b6.out.mono B5.size); have q6 := q5.bel b6; have s6 := s5.bel b6)
    | (go_at_call 18; refine (add_new w.heap.size w3.heap.size _ _ [] 3 (by decide) (by simp) _ B4.size s3 i3).mono ?_; rintro e w5 ⟨rfl, v5, m5, s5, k5, -, -⟩; have B5 := B4.trans (s3.below B4.size k5); have q5 := q4.of_set s3 k5)
    | (go_at_call 14; refine (len_any w.heap.size w.heap.size _ _ q6).mono ?_; rintro e w7 ⟨rfl, rfl⟩)
    | (go_at_call 17; refine (has_any w.heap.size w3.heap.size _ _ [3] 3 (by decide) _ s6).mono ?_; rintro e w8 ⟨rfl, b8⟩; have B8 := B6.trans (b8.out.mono B6.size); have s8 := s6.bel b8)
    | (go_at_call 20; refine (slen_any w.heap.size w3.heap.size _ _ _ _ s8).mono ?_; rintro e w9 ⟨rfl, rfl⟩))
  go_ret
  exact ⟨rfl, B8⟩
end Go.Proofs.Ytfgejepjiifmlaa
