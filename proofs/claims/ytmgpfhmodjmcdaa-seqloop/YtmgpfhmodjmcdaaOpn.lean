/-
  An argument that is a slice of ints, opened, with its room.
-/
import Derived.Test.YtmgpfhmodjmcdaaRunC
namespace Go.Proofs.Ytmgpfhmodjmcdaa
set_option linter.unusedVariables false
set_option maxRecDepth 20000
open Go.ChangeShapes Go.WideShapes Go.ChangeAt Go.RowKit

theorem open_intsC {H : Type} {enc : TypeId × Value → H} {W : World} {b0 : Nat} {v : Value} {d : DataW H} {p : List MemPlace} {t e : TypeId} (ht : Try.prog.underlying t = some (.slice e)) (he : Try.prog.underlying e = some (.int .i64)) (hc : Try.prog.cellsOf e = 1)
    (hv : Value.okWide Try.prog W .any b0 t v) (h : DataW.Trod enc Try.prog W 0 (fun _ => true) true t v d p) : ∃ X : List Int, IntsC W v X ∧ ∀ x ∈ X, (Lit.int .i64 x).wf = true := by
  obtain ⟨X, hX, hw⟩ := open_intsK ht he hc hv h
  obtain ⟨a0, len0, cap0, rfl⟩ := okWide_slice ht hv
  obtain ⟨fuel, hf⟩ := h
  obtain ⟨ao, cap, e1, hr⟩ := hX
  injection e1 with e2 e3 e4
  subst e2 e3 e4
  refine ⟨X, ⟨a0, cap0, rfl, ?_, hr⟩, hw⟩
  rcases open_ints ht he hc hf with ⟨hcs, _⟩ | ⟨a, len, cap, zs, hcs, _, hl, hm, hz, _, hcell, _⟩
  · simp [Value.cells] at hcs
    obtain ⟨_, h1, h2⟩ := hcs
    simp [h1]
  · simp [Value.cells] at hcs
    obtain ⟨_, rfl, rfl⟩ := hcs
    exact hl
end Go.Proofs.Ytmgpfhmodjmcdaa
