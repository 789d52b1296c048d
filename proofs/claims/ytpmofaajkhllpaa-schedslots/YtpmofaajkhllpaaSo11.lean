/-
  What the statement on slots counts.
-/
import Derived.Test.YtpmofaajkhllpaaSh11
import Derived.Test.YtpmofaajkhllpaaCr11
import Derived.Test.YtpmofaajkhllpaaRg
namespace Go.Proofs.Ytpmofaajkhllpaa
set_option maxRecDepth 20000
set_option linter.unusedVariables false
open Go.ChangeShapes Go.WideShapes Go.ChangeAt Go.RowKit

theorem layS_nil {X : List Ins} {M : List Int} (h : LayS X M) (h0 : X.length = 0) : M = [] := by
  rcases h with ⟨_, h⟩ | ⟨h, _⟩ | ⟨h, _⟩
  · exact h
  · omega
  · omega
theorem ret_goes {x : Ins} (w : World) : Calls Try.prog 18 #[.agg #[.int .i64 x.o, .int .i64 x.a, .int .i64 x.b, .int .i64 x.c, .int .i64 x.i]] w fun e w' => e = .returned (.bool x.goes) ∧ Bel w w' := refGoes_any x.o x.a x.b x.c x.i w
/-- How often each place stands in the first k ones. -/
def cntM (M : List Int) (k : Nat) : Nat → Int := fun j => ((M.take k).count (j : Int) : Nat)
theorem cntM_bd (M : List Int) (k j : Nat) : 0 ≤ cntM M k j ∧ cntM M k j ≤ k := by
  unfold cntM
  have h := List.count_le_length (a := (j : Int)) (l := M.take k)
  rw [List.length_take] at h
  omega
theorem cntM_start (M : List Int) (n : Nat) : intB (fun _ => 0) n = intB (cntM M 0) n := intB_cong fun j _ => by simp [cntM]
theorem cntM_snoc (M : List Int) (k j : Nat) (hk : k < M.length) : cntM M (k + 1) j = cntM M k j + if M.getD k 0 = (j : Int) then 1 else 0 := by
  unfold cntM
  have e : M.take (k + 1) = M.take k ++ [M.getD k 0] := by rw [List.take_succ_eq_append_getElem hk]; simp [List.getD, hk]
  rw [e, List.count_append, List.count_singleton]
  by_cases q : M.getD k 0 = (j : Int)
  · rw [if_pos q, if_pos (by simpa using q)]; omega
  · rw [if_neg q, if_neg (by simpa using q)]; omega
theorem cntM_skip {M : List Int} {k : Nat} (n : Nat) (hk : k < M.length) (h : M.getD k 0 = -1) : intB (cntM M k) n = intB (cntM M (k + 1)) n := intB_cong fun j _ => by
  rw [cntM_snoc M k j hk, h, if_neg (by omega)]; omega
theorem cntM_add {M : List Int} {k i : Nat} (n : Nat) (hk : k < M.length) (h : M.getD k 0 = (i : Int)) : intB (updN (cntM M k) i (cntM M k i + 1)) n = intB (cntM M (k + 1)) n := intB_cong fun j _ => by
  rw [cntM_snoc M k j hk, h]
  unfold updN
  by_cases q : j = i
  · subst q; simp
  · rw [if_neg q, if_neg (by omega)]; omega
theorem cntM_end {M : List Int} {j : Nat} (h : M.count (j : Int) = 1) : cntM M M.length j = 1 := by
  unfold cntM
  rw [List.take_length, h]
  rfl
theorem lay_in {M : List Int} {n : Nat} (h : ∀ x ∈ M, x = -1 ∨ ∃ j : Nat, x = j ∧ j < n) (k : Nat) (hk : k < M.length) : M.getD k 0 = -1 ∨ ∃ j : Nat, M.getD k 0 = j ∧ j < n := by
  have := h M[k] (List.getElem_mem hk)
  rwa [show M.getD k 0 = M[k] by simp [List.getD, hk]]
end Go.Proofs.Ytpmofaajkhllpaa
