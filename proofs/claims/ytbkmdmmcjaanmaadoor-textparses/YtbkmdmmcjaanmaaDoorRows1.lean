/-
  Slices of ints that a call made: what they look like.
-/
import Derived.Test.YtbkmdmmcjaanmaaDoorKit
import Derived.Deep.AppendLies
namespace Go.Proofs.YtbkmdmmcjaanmaaDoor
set_option maxRecDepth 20000
open Go.ChangeShapes Go.WideShapes Go.ChangeAt Go.RowKit

theorem add0 (g j : Nat) : (⟨g, 0, none⟩ : Addr).add j = ⟨g, j, none⟩ := by unfold Addr.add; split <;> simp_all
theorem ints_form {w : World} {base : Nat} {v : Value} {L : List Int} (h : w.ownsRow base 3 1 v L.length (L.map (Value.int .i64))) (hn : 0 < L.length) :
    ∃ g cap, v = .slice (some ⟨g, 0, none⟩) L.length cap ∧ base ≤ g ∧ g < w.heap.size ∧ L.length ≤ cap ∧ cap ≤ maxLen ∧ ∀ j, j < L.length → w.cell? ⟨g, j, none⟩ = some (.int .i64 (L.getD j 0)) := by
  obtain ⟨g, cap, rfl, hb, hlt⟩ := h.form hn
  have hc := h.cells (g := g) rfl
  refine ⟨g, cap, rfl, hb, hlt, ?_, ?_, fun j hj => ?_⟩
  · rcases h.2 with ⟨h1, _⟩ | ⟨g', cap', cur, h1, _, _, h2, _⟩
    · cases h1
    · cases h1; exact h2
  · rcases h.2 with ⟨h1, _⟩ | ⟨g', cap', cur, h1, _, _, _, h2, _⟩
    · cases h1
    · cases h1; exact h2
  · have := hc j (.int .i64 (L.getD j 0)) (by rw [List.getElem?_map, List.getElem?_eq_getElem hj]; simp [List.getD, List.getElem?_eq_getElem hj])
    rwa [add0] at this
theorem ints_nil {w : World} {base : Nat} {v : Value} (h : w.ownsRow base 3 1 v 0 []) : ∃ a cap, v = .slice a 0 cap := by
  rcases h.2 with ⟨h1, _⟩ | ⟨g', cap', cur, h1, _⟩
  · exact ⟨_, _, h1⟩
  · exact ⟨_, _, h1⟩
theorem ints_view {w : World} {base : Nat} {v : Value} {L : List Int} (h : w.ownsRow base 3 1 v L.length (L.map (Value.int .i64))) :
    ∃ ao cap, v = .slice ao L.length cap ∧ (0 < L.length → ∃ g, ao = some ⟨g, 0, none⟩ ∧ base ≤ g ∧ g < w.heap.size ∧ L.length ≤ cap ∧ cap ≤ maxLen ∧ ∀ j, j < L.length → w.cell? ⟨g, j, none⟩ = some (.int .i64 (L.getD j 0))) := by
  by_cases hn : 0 < L.length
  · obtain ⟨g, cap, rfl, r⟩ := ints_form h hn
    exact ⟨_, _, rfl, fun _ => ⟨g, rfl, r⟩⟩
  · have hL : L = [] := by cases L <;> simp_all
    subst hL
    obtain ⟨a, cap, rfl⟩ := ints_nil h
    exact ⟨a, cap, rfl, fun hh => absurd hh hn⟩
end Go.Proofs.YtbkmdmmcjaanmaaDoor
