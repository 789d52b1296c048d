/-
  Code that is written out; a run, its lists as slices.
-/
import Derived.Test.YtmgpfhmodjmcdaaEqR
namespace Go.Proofs.Ytmgpfhmodjmcdaa
set_option maxRecDepth 20000
set_option linter.unusedVariables false
open Go.ChangeShapes Go.WideShapes Go.ChangeAt Go.RowKit

/-- The cells of code. -/
def flat : List Ins → List Value
  | [] => []
  | x :: l => .int .i64 x.o :: .int .i64 x.a :: .int .i64 x.b :: .int .i64 x.c :: .int .i64 x.i :: flat l
theorem flat_get : ∀ (X : List Ins) (j : Nat), j < X.length → (flat X)[j * 5]? = some (.int .i64 (X.getD j Ins.zero).o) ∧ (flat X)[j * 5 + 1]? = some (.int .i64 (X.getD j Ins.zero).a) ∧ (flat X)[j * 5 + 2]? = some (.int .i64 (X.getD j Ins.zero).b) ∧ (flat X)[j * 5 + 3]? = some (.int .i64 (X.getD j Ins.zero).c) ∧ (flat X)[j * 5 + 4]? = some (.int .i64 (X.getD j Ins.zero).i)
  | [], _, h => absurd h (by simp)
  | x :: l, 0, _ => ⟨rfl, rfl, rfl, rfl, rfl⟩
  | x :: l, j + 1, h => by
    have := flat_get l j (by simpa using h)
    simp only [flat, show (j + 1) * 5 = j * 5 + 1 + 1 + 1 + 1 + 1 by omega, List.getElem?_cons_succ, List.getD_cons_succ, show ∀ a b : Nat, a + 1 + 1 + 1 + 1 + 1 + b = a + b + 1 + 1 + 1 + 1 + 1 by omega]
    exact this
theorem code_lit {W : World} {k : Nat} {X : List Ins} {t : TypeId} {f : Nat × Nat} (h : W.heap[k]? = some (.cells (flat X).toArray t f)) (n c : Nat) (hn : n = X.length) : Code W (.slice (some ⟨k, 0, none⟩) n c) X := by
  subst hn
  refine ⟨_, c, rfl, fun _ => ⟨k, 0, rfl, lt_of_heap h, fun j hj => ?_⟩⟩
  have := flat_get X j hj
  simp only [cell_of h, List.getElem?_toArray, Nat.zero_add]
  exact this
theorem ends_one {X : List Ins} {s : St} {F j k : Nat} (h1 : Ends X s F j) (h2 : Ends X s F k) : j = k := by
  obtain ⟨a1, a2, a3⟩ := h1
  obtain ⟨b1, b2, b3⟩ := h2
  rcases Nat.lt_trichotomy j k with h | h | h
  · rcases a3 with a3 | a3
    · exact absurd (b2 j h) a3
    · omega
  · exact h
  · rcases b3 with b3 | b3
    · exact absurd (a2 k h) b3
    · omega
/-- A run, its lists as slices. -/
theorem run_c (X : List Ins) (v iv : Value) (z f : Int) (I : List Int) (W : World) (hv : Code W v X) (hi : IntsC W iv I) (hX : X.length ≤ 4096) (hz : 0 ≤ z ∧ z ≤ 32000) (hf : f ≤ 1000000) :
    Calls Try.prog 16 #[v, .int .i64 z, iv, .int .i64 f] W fun e W' => ∃ (k : Nat) (ao : Option Addr) (ca : Nat) (am : Option Addr) (cm : Nat), Ends X (start z.toNat I) f.toNat k ∧
      e = .returned (.agg #[.int .i64 (runK X (start z.toNat I) k).1, .int .i64 (k : Int), .slice ao (runK X (start z.toNat I) k).2.out.length ca, .slice am (usedL (runK X (start z.toNat I) k).2.mem).length cm]) ∧
      Ints .i64 W' (.slice ao (runK X (start z.toNat I) k).2.out.length ca) (runK X (start z.toNat I) k).2.out ∧ Ints .i64 W' (.slice am (usedL (runK X (start z.toNat I) k).2.mem).length cm) (usedL (runK X (start z.toNat I) k).2.mem) ∧ Bel W W' ∧ (runK X (start z.toNat I) k).2.out.length ≤ 10000 ∧ (runK X (start z.toNat I) k).2.mem.length ≤ 32000 := by
  refine (run_any X v iv z f I W hv hi hX hz hf).mono ?_
  rintro e W' ⟨k, ov, mv, hE, rfl, ho, hm, hB, hb1, hb2⟩
  have ho' := ho
  have hm' := hm
  obtain ⟨ao, ca, rfl, _⟩ := ho'
  obtain ⟨am, cm, rfl, _⟩ := hm'
  exact ⟨k, ao, ca, am, cm, hE, rfl, ho, hm, hB, hb1, hb2⟩
end Go.Proofs.Ytmgpfhmodjmcdaa
