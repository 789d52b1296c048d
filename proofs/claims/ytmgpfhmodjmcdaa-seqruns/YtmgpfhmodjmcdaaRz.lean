/-
  What a run of the reference tells, of any memory.
-/
import Derived.Test.YtmgpfhmodjmcdaaRq
import Derived.Test.YtmgpfhmodjmcdaaSd
namespace Go.Proofs.Ytmgpfhmodjmcdaa
set_option maxRecDepth 20000
set_option linter.unusedVariables false
open Go.ChangeShapes Go.WideShapes Go.ChangeAt Go.RowKit

theorem refrun_said (X : List Ins) (v iv : Value) (z f : Int) (I : List Int) (W : World) (hv : Code W v X) (hi : IntsC W iv I) (hI : ∀ x ∈ I, (Lit.int .i64 x).wf = true) (hX : X.length ≤ 4096) (hf : f ≤ 1000000) :
    Calls Try.prog 17 #[v, .int .i64 z, iv, .int .i64 f] W fun e W' => ∃ (t : Int) (k : Nat) (O M : List Int) (ao : Option Addr) (ca : Nat) (am : Option Addr) (cm : Nat), Said X z I f t k O M ∧
      e = .returned (.agg #[.int .i64 t, .int .i64 (k : Int), .slice ao O.length ca, .slice am M.length cm]) ∧ Ints .i64 W' (.slice ao O.length ca) O ∧ Ints .i64 W' (.slice am M.length cm) M ∧ Bel W W' := by
  by_cases hz : z < 0 ∨ 32000 < z
  · obtain ⟨ao, cap, rfl, _⟩ := id hv
    refine (refrun_badmem _ iv ao X.length cap rfl z f W hX hz).mono ?_
    rintro e W' ⟨rfl, hB⟩
    exact ⟨0, 0, [], [], none, 0, none, 0, by unfold Said; rw [if_pos hz]; exact ⟨rfl, rfl, rfl, rfl⟩, rfl, ints_nil W', ints_nil W', hB⟩
  · refine (refrun_any X v iv z f I W hv hi hI hX (by omega) hf).mono ?_
    rintro e W' ⟨k, ov, mv, hE, rfl, ho, hm, hB⟩
    obtain ⟨ao, ca, rfl, _⟩ := id ho
    obtain ⟨am, cm, rfl, _⟩ := id hm
    exact ⟨_, k, _, _, ao, ca, am, cm, by unfold Said; rw [if_neg hz]; exact ⟨hE, rfl, rfl, rfl⟩, rfl, ho, hm, hB⟩
theorem said_one {X : List Ins} {z : Int} {I : List Int} {f t t' : Int} {k k' : Nat} {O M O' M' : List Int} (h : Said X z I f t k O M) (h' : Said X z I f t' k' O' M') : t' = t ∧ k' = k ∧ O' = O ∧ M' = M := by
  unfold Said at h h'
  by_cases hz : z < 0 ∨ 32000 < z
  · rw [if_pos hz] at h h'
    obtain ⟨rfl, rfl, rfl, rfl⟩ := h
    obtain ⟨rfl, rfl, rfl, rfl⟩ := h'
    exact ⟨rfl, rfl, rfl, rfl⟩
  · rw [if_neg hz] at h h'
    obtain ⟨hE, rfl, rfl, rfl⟩ := h
    obtain ⟨hE', rfl, rfl, rfl⟩ := h'
    obtain rfl := ends_one hE' hE
    exact ⟨rfl, rfl, rfl, rfl⟩
end Go.Proofs.Ytmgpfhmodjmcdaa
