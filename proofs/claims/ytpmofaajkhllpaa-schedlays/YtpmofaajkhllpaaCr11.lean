/-
  An argument that is a slice of instructions, opened, with its room.
-/
import Derived.Test.YtpmofaajkhllpaaCd
namespace Go.Proofs.Ytpmofaajkhllpaa
set_option maxRecDepth 20000
set_option linter.unusedVariables false
open Go.ChangeShapes Go.WideShapes Go.ChangeAt Go.RowKit Go.Deep

theorem open_codeR {H : Type} {enc : TypeId × Value → H} {W : World} {b0 : Nat} {v : Value} {d : DataW H} {p : List MemPlace} (hv : Value.okWide Try.prog W .any b0 22 v)
    (h : DataW.Trod enc Try.prog W 0 (fun _ => true) true 22 v d p) : ∃ X : List Ins, Code W v X ∧ ∀ ao n c, v = .slice ao n c → n ≤ c := by
  obtain ⟨X, hX⟩ := open_code hv h
  refine ⟨X, hX, fun ao n c e => ?_⟩
  subst e
  obtain ⟨fuel, hf⟩ := h
  rcases open_slice Try.underlying22 hf with ⟨hcs, _⟩ | ⟨a, len, cap, m, n', D, Pl, hcs, _, hl, _⟩
  · simp [Value.cells] at hcs
    omega
  · simp [Value.cells] at hcs
    omega
end Go.Proofs.Ytpmofaajkhllpaa
