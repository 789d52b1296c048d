/-
  A list is laid in one way.
-/
import Derived.Test.YtpmofaajkhllpaaRl11
import Derived.Test.YtpmofaajkhllpaaCr11
import Derived.Laws.StructEq
namespace Go.Proofs.Ytpmofaajkhllpaa
set_option maxRecDepth 20000
set_option linter.unusedVariables false
open Go.ChangeShapes Go.WideShapes Go.ChangeAt Go.RowKit

theorem layS_one {X : List Ins} {M N : List Int} (h : LayS X M) (k : LayS X N) : M = N := by
  rcases h with ⟨h1, h2⟩ | ⟨h1, h2, Z, hZ, rfl⟩ | ⟨h1, h2, Z, hZ, rfl⟩ <;> rcases k with ⟨k1, k2⟩ | ⟨k1, k2, Y, hY, rfl⟩ | ⟨k1, k2, Y, hY, rfl⟩
  · rw [h2, k2]
  · rw [h1] at k1; simp at k1
  · rw [h1] at k1; simp at k1
  · rw [k1] at h1; simp at h1
  · rw [ord_one hZ hY]
  · rw [h2] at k2; cases k2
  · rw [k1] at h1; simp at h1
  · rw [h2] at k2; cases k2
  · rw [ord_one hZ hY]
theorem layS_len {X : List Ins} {M : List Int} (h : LayS X M) : M.length ≤ 2 * X.length + 1 := by
  rcases h with ⟨_, rfl⟩ | ⟨h1, _, Z, hZ, rfl⟩ | ⟨_, _, Z, hZ, rfl⟩
  · simp
  · have z1 := ord_len hZ
    have el : (X.take (X.length - 1)).length = X.length - 1 := by rw [List.length_take]; omega
    have z5 := fstN_le X Z
    rw [el] at z1
    unfold layG padZ
    split
    · simp; omega
    · simp; omega
  · have z1 := ord_len hZ
    split
    · simp; omega
    · omega
theorem pick_yes {X : List Ins} {z : Int} {j : Nat} (e : z = j) (hj : j < X.length) : pickI X z = xAt X j := by
  unfold pickI
  rw [if_pos ⟨by omega, by omega⟩, e, Int.toNat_natCast]
  rfl
theorem pick_no {X : List Ins} {z : Int} (h : ¬ (0 ≤ z ∧ z < X.length)) : pickI X z = Ins.zero := by
  unfold pickI
  rw [if_neg h]
theorem same_yesU (A : List Int) (va vb : Value) (W : World) (ha : Ints .i64 W va A) (hb : Ints .i64 W vb A) (hlen : A.length < 1000000000) :
    Calls Try.prog 11 #[va, vb] W fun e W' => e = .returned (.bool true) ∧ Bel W W' := by
  have := same_any va vb A A W ha hb hlen
  rwa [sameB_self] at this
end Go.Proofs.Ytpmofaajkhllpaa
