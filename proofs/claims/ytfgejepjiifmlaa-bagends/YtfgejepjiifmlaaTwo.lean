/-
  A set and a list of the same numbers, side by side.
-/
import Derived.Test.YtfgejepjiifmlaaSAll
namespace Go.Proofs.Ytfgejepjiifmlaa
set_option linter.unusedVariables false
open Go.ChangeShapes Go.WideShapes Go.ChangeAt Go.RowKit

/-- Two rows lie apart. -/
def Apart (u v : Value) : Prop := ∀ g, u.ownBlock = some g → v.ownBlock ≠ some g
theorem apart_nil (v : Value) : Apart (.slice none 0 0) v := fun g e => by cases e
theorem row_of_set {n n₁ b : Nat} {v u : Value} {mp : Option Nat} {W W' : World} {L : List Int} {m : Nat} {xs : List Value} (s : IsS n₁ W b v mp L) (hr : W.ownsRow n 3 1 u m xs) (hd : Apart u v) (hk : Kept (SS b v mp) W W') : W'.ownsRow n 3 1 u m xs := by
  refine row_kept hr (hk.mono (T := fun k o => ¬ (u.ownBlock = some k)) fun k o e hs hu => ?_) (fun g c f e hn => hn e)
  obtain ⟨_, ht⟩ := row_tag hr k o e hu
  rcases hs with rfl | hs | hs
  · rw [s.box] at e
    injection e with e
    subst e
    injection ht with ht
    exact absurd ht (by decide)
  · exact hd k hu hs
  · subst hs
    obtain ⟨_, es, clock, hmb, _⟩ := s.map
    rw [hmb] at e
    injection e with e
    subst e
    cases ht
theorem IsS.of_row {n n₁ b : Nat} {v u : Value} {mp : Option Nat} {W W' : World} {L : List Int} {m : Nat} {xs : List Value} (s : IsS n₁ W b v mp L) (hr : W.ownsRow n 3 1 u m xs) (hd : Apart u v) (hg : W.grownBy W' u.ownBlock) : IsS n₁ W' b v mp L := by
  refine s.kept (S := fun k _ => k ≠ b ∧ v.ownBlock ≠ some k ∧ mp ≠ some k) ((Kept.grown (S := fun k _ => u.ownBlock = some k) hg (fun k o e _ => e)).mono fun k o e hu => ?_) (fun _ _ h => h)
  obtain ⟨_, ht⟩ := row_tag hr k o e hu
  refine ⟨fun e' => ?_, hd k hu, fun e' => ?_⟩
  · subst e'
    rw [s.box] at e
    injection e with e
    subst e
    injection ht with ht
    exact absurd ht (by decide)
  · subst e'
    obtain ⟨_, es, clock, hmb, _⟩ := s.map
    rw [hmb] at e
    injection e with e
    subst e
    cases ht
/-- Behind an Add of the set's. -/
theorem apart_add {n : Nat} {u v v' : Value} {W : World} {m : Nat} {xs : List Value} (hr : W.ownsRow n 3 1 u m xs) (hd : Apart u v) (ho : v'.ownBlock = v.ownBlock ∨ ∃ g, v'.ownBlock = some g ∧ W.heap.size ≤ g) : Apart u v' := by
  intro g hu hv
  have hlt := (hr.lt g hu).2
  rcases ho with e | ⟨g', e, hg⟩
  · exact hd g hu (e ▸ hv)
  · rw [e] at hv
    injection hv with hv
    omega
/-- Behind an append to the list. -/
theorem apart_app {n : Nat} {u u' v : Value} {W : World} {m k : Nat} {xs : List Value} (hr : W.ownsRow n 3 1 v m xs) (hd : Apart u v) (hk : W.heap.size ≤ k) (ho : u'.ownBlock = u.ownBlock ∨ u'.ownBlock = some k) : Apart u' v := by
  intro g hu hv
  have hlt := (hr.lt g hv).2
  rcases ho with e | e
  · exact hd g (e ▸ hu) hv
  · rw [e] at hu
    injection hu with hu
    omega
/-- What a set holds, as its All tells it. -/
theorem IsS.held {n₀ b : Nat} {ao : Option Addr} {cap : Nat} {mp : Option Nat} {W : World} {L : List Int} (s : IsS n₀ W b (.slice ao L.length cap) mp L) :
    0 < L.length → ∃ g o, ao = some ⟨g, o, none⟩ ∧ g < W.heap.size ∧ ∀ j, j < L.length → W.cell? ⟨g, o + j, none⟩ = some (.int .i64 (L[j]?.getD 0)) := by
  obtain ⟨ao', cap', e, h⟩ := ints_of_row s.row
  injection e with e1 e2 e3
  subst e1
  exact h
end Go.Proofs.Ytfgejepjiifmlaa
