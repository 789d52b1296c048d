/-
  Slices of integers: what they hold (stage 6 on: over Kpt).
-/
import Derived.Test.YtfhepjjebadpdaaKpt
import Derived.ChangeSlices
import Derived.Deep.QuietTactic
import Derived.BigQuiet
namespace Go.Proofs.Ytfhepjjebadpdaa
set_option linter.unusedVariables false
set_option maxRecDepth 20000
open Go.ChangeShapes Go.WideShapes Go.ChangeAt Go.RowKit

theorem Bel.drewN (w : World) (n : Nat) : Bel w (w.drewN n) := by
  induction n with
  | zero => exact Bel.refl w
  | succ n ih => exact ih.drew
/-- The slice v holds the numbers X. -/
def Ints (q : IntKind) (W : World) (v : Value) (X : List Int) : Prop :=
  ∃ ao cap, v = .slice ao X.length cap ∧ (0 < X.length → ∃ b o, ao = some ⟨b, o, none⟩ ∧ b < W.heap.size ∧ ∀ j, j < X.length → W.cell? ⟨b, o + j, none⟩ = some (.int q (X[j]?.getD 0)))
theorem Ints.bel {q : IntKind} {W W' : World} {v : Value} {X : List Int} (h : Ints q W v X) (hb : Bel W W') : Ints q W' v X := by
  obtain ⟨ao, cap, rfl, r⟩ := h
  refine ⟨ao, cap, rfl, fun hn => ?_⟩
  obtain ⟨b, o, rfl, hlt, hc⟩ := r hn
  exact ⟨b, o, rfl, Nat.lt_of_lt_of_le hlt hb.size, fun j hj => ((bcell hb).1 b (o + j) hlt).trans (hc j hj)⟩
theorem ints_of_row {n₀ : Nat} {W : World} {v : Value} {X : List Int} (h : W.ownsRow n₀ 3 1 v X.length (X.map (Value.int .i64))) : Ints .i64 W v X := by
  rcases h.2 with ⟨rfl, e⟩ | ⟨g, cap, cur, rfl, hb, hg, hle, _, hsz, ht⟩
  · exact ⟨none, 0, by rw [e], fun hn => absurd hn (by omega)⟩
  · refine ⟨_, cap, rfl, fun hn => ⟨g, 0, rfl, lt_of_heap hg, fun j hj => ?_⟩⟩
    have hc := h.cells (g := g) rfl j (.int .i64 (X[j]?.getD 0)) (by rw [List.getElem?_map, List.getElem?_eq_getElem hj]; simp)
    have e : (⟨g, 0, none⟩ : Addr).add j = ⟨g, 0 + j, none⟩ := by unfold Addr.add; split <;> simp_all
    rw [e] at hc
    exact hc
theorem spot_of {w : World} {a : Addr} {v : Value} (h : w.cell? a = some v) : a.spot = none := by
  unfold World.cell? at h
  split at h
  · split at h
    · cases h
    · rename_i hs
      simpa using hs
  · cases h
theorem open_intsK {H : Type} {enc : TypeId × Value → H} {W : World} {b0 : Nat} {v : Value} {d : DataW H} {p : List MemPlace} {t e : TypeId} {q : IntKind} (ht : Try.prog.underlying t = some (.slice e)) (he : Try.prog.underlying e = some (.int q)) (hc : Try.prog.cellsOf e = 1)
    (hv : Value.okWide Try.prog W .any b0 t v) (h : DataW.Trod enc Try.prog W 0 (fun _ => true) true t v d p) : ∃ X : List Int, Ints q W v X ∧ ∀ x ∈ X, (Lit.int q x).wf = true := by
  obtain ⟨a0, len0, cap0, rfl⟩ := okWide_slice ht hv
  obtain ⟨fuel, hf⟩ := h
  rcases open_ints ht he hc hf with ⟨hcs, _⟩ | ⟨a, len, cap, zs, hcs, _, hl, hm, hz, _, hcell, hw⟩
  · simp [Value.cells] at hcs
    obtain ⟨rfl, rfl, rfl⟩ := hcs
    exact ⟨[], ⟨none, 0, rfl, fun h => absurd h (by simp)⟩, by simp⟩
  · simp [Value.cells] at hcs
    obtain ⟨rfl, rfl, rfl⟩ := hcs
    simp only [if_true] at hz
    have hlen : (zs.take len0).length = len0 := by rw [List.length_take]; omega
    refine ⟨zs.take len0, ⟨some a, cap0, by rw [hlen], fun hn => ?_⟩, fun x hx => hw x (List.mem_of_mem_take hx)⟩
    rw [hlen] at hn ⊢
    have h0 := hcell 0 (by omega)
    have hs : a.spot = none := by
      have := spot_of h0
      unfold Addr.add at this
      split at this <;> simp_all
    obtain ⟨b, o, sp⟩ := a
    obtain rfl : sp = none := hs
    refine ⟨b, o, rfl, ?_, fun j hj => ?_⟩
    · have := World.block_lt_of_cell? W _ h0
      rwa [block_add] at this
    · have := hcell j (by omega)
      rw [add_plain] at this
      rw [List.getElem?_take, if_pos hj]
      exact this
end Go.Proofs.Ytfhepjjebadpdaa
