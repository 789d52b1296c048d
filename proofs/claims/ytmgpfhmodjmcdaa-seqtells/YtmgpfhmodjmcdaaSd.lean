/-
  What a run tells, of any memory; what follows for two runs.
-/
import Derived.Test.YtmgpfhmodjmcdaaSm
import Derived.Test.YtmgpfhmodjmcdaaOpn
namespace Go.Proofs.Ytmgpfhmodjmcdaa
set_option maxRecDepth 20000
set_option linter.unusedVariables false
open Go.ChangeShapes Go.WideShapes Go.ChangeAt Go.RowKit

/-- A run of X tells this. -/
def Said (X : List Ins) (z : Int) (I : List Int) (f t : Int) (k : Nat) (O M : List Int) : Prop :=
  if z < 0 ∨ 32000 < z then t = 0 ∧ k = 0 ∧ O = [] ∧ M = []
  else Ends X (start z.toNat I) f.toNat k ∧ t = (runK X (start z.toNat I) k).1 ∧ O = (runK X (start z.toNat I) k).2.out ∧ M = usedL (runK X (start z.toNat I) k).2.mem
theorem ints_nil (W : World) : Ints .i64 W (.slice none 0 0) [] := (intsC_nil W).ints
theorem used_len (L : List Int) : (usedL L).length ≤ L.length := by unfold usedL; rw [List.length_take]; omega
theorem run_said (X : List Ins) (v iv : Value) (z f : Int) (I : List Int) (W : World) (hv : Code W v X) (hi : IntsC W iv I) (hX : X.length ≤ 4096) (hf : f ≤ 1000000) :
    Calls Try.prog 16 #[v, .int .i64 z, iv, .int .i64 f] W fun e W' => ∃ (t : Int) (k : Nat) (O M : List Int) (ao : Option Addr) (ca : Nat) (am : Option Addr) (cm : Nat), Said X z I f t k O M ∧
      e = .returned (.agg #[.int .i64 t, .int .i64 (k : Int), .slice ao O.length ca, .slice am M.length cm]) ∧ Ints .i64 W' (.slice ao O.length ca) O ∧ Ints .i64 W' (.slice am M.length cm) M ∧ Bel W W' ∧ O.length ≤ 10000 ∧ M.length ≤ 32000 ∧ k ≤ f.toNat := by
  by_cases hz : z < 0 ∨ 32000 < z
  · refine (run_badmem X v iv z f W hz).mono ?_
    rintro e W' ⟨rfl, hB⟩
    exact ⟨0, 0, [], [], none, 0, none, 0, by unfold Said; rw [if_pos hz]; exact ⟨rfl, rfl, rfl, rfl⟩, rfl, ints_nil W', ints_nil W', hB, by simp, by simp, Nat.zero_le _⟩
  · refine (run_c X v iv z f I W hv hi hX (by omega) hf).mono ?_
    rintro e W' ⟨k, ao, ca, am, cm, hE, rfl, ho, hm, hB, b1, b2⟩
    refine ⟨_, k, _, _, ao, ca, am, cm, by unfold Said; rw [if_neg hz]; exact ⟨hE, rfl, rfl, rfl⟩, rfl, ho, hm, hB, b1, ?_, hE.1⟩
    have := used_len (runK X (start z.toNat I) k).2.mem
    omega
theorem said_room {X : List Ins} {z : Int} {I : List Int} {f t t' : Int} {k k' : Nat} {O M O' M' : List Int} (n : Nat) (h0 : 0 ≤ z) (h1 : z ≤ 300) (hn : n ≤ 300) (h : Said X z I f t k O M) (h' : Said X (z + n) I f t' k' O' M') (ht : t ≠ 3) : t' = t ∧ k' = k ∧ O' = O ∧ M' = M := by
  unfold Said at h h'
  rw [if_neg (by omega)] at h h'
  obtain ⟨hE, rfl, rfl, rfl⟩ := h
  obtain ⟨hE', rfl, rfl, rfl⟩ := h'
  have e : (z + n).toNat = z.toNat + n := by omega
  rw [e] at hE' ⊢
  obtain ⟨q1, q2, q3⟩ := beside (Room n) 3 (by decide) (room_start z.toNat n I) (room_step X n) hE ht
  obtain rfl := ends_one hE' q1
  exact ⟨q2, rfl, q3.out, by rw [q3.mem, used_more]⟩
theorem said_input {X : List Ins} {z : Int} {I N : List Int} {f t t' : Int} {k k' : Nat} {O M O' M' : List Int} (h : Said X z I f t k O M) (h' : Said X z (I ++ N) f t' k' O' M') (ht : t ≠ 6) : t' = t ∧ k' = k ∧ O' = O ∧ M' = M := by
  unfold Said at h h'
  by_cases hz : z < 0 ∨ 32000 < z
  · rw [if_pos hz] at h h'
    obtain ⟨rfl, rfl, rfl, rfl⟩ := h
    obtain ⟨rfl, rfl, rfl, rfl⟩ := h'
    exact ⟨rfl, rfl, rfl, rfl⟩
  · rw [if_neg hz] at h h'
    obtain ⟨hE, rfl, rfl, rfl⟩ := h
    obtain ⟨hE', rfl, rfl, rfl⟩ := h'
    obtain ⟨q1, q2, q3⟩ := beside (X := X) (X' := X) (s := start z.toNat I) (s' := start z.toNat (I ++ N)) (More N) 6 (by decide) ⟨rfl, rfl, rfl, rfl, rfl⟩ (more_step X N) hE ht
    obtain rfl := ends_one hE' q1
    exact ⟨q2, rfl, q3.out, by rw [q3.mem]⟩
theorem said_behind {X Y : List Ins} {z : Int} {I : List Int} {f t t' : Int} {k k' : Nat} {O M O' M' : List Int} (h : Said X z I f t k O M) (h' : Said (X ++ Y) z I f t' k' O' M') (ht : t ≠ 2) : t' = t ∧ k' = k ∧ O' = O ∧ M' = M := by
  unfold Said at h h'
  by_cases hz : z < 0 ∨ 32000 < z
  · rw [if_pos hz] at h h'
    obtain ⟨rfl, rfl, rfl, rfl⟩ := h
    obtain ⟨rfl, rfl, rfl, rfl⟩ := h'
    exact ⟨rfl, rfl, rfl, rfl⟩
  · rw [if_neg hz] at h h'
    obtain ⟨hE, rfl, rfl, rfl⟩ := h
    obtain ⟨hE', rfl, rfl, rfl⟩ := h'
    obtain ⟨q1, q2, q3⟩ := beside (X' := X ++ Y) (s' := start z.toNat I) (fun u u' => u' = u) 2 (by decide) rfl (behind_step X Y) hE ht
    obtain rfl := ends_one hE' q1
    exact ⟨q2, rfl, by rw [q3], by rw [q3]⟩
theorem said_more {X : List Ins} {z : Int} {I : List Int} {f g t t' : Int} {k k' : Nat} {O M O' M' : List Int} (hfg : f ≤ g) (h : Said X z I f t k O M) (h' : Said X z I g t' k' O' M') :
    (t ≠ 0 → t' = t ∧ k' = k ∧ O' = O ∧ M' = M) ∧ (t = 0 → k ≤ k' ∧ O <+: O' ∧ ((k = f.toNat) ∨ (O' = [] ∧ k' = 0))) := by
  unfold Said at h h'
  by_cases hz : z < 0 ∨ 32000 < z
  · rw [if_pos hz] at h h'
    obtain ⟨rfl, rfl, rfl, rfl⟩ := h
    obtain ⟨rfl, rfl, rfl, rfl⟩ := h'
    exact ⟨fun h => absurd rfl h, fun _ => ⟨Nat.le_refl _, List.prefix_refl _, .inr ⟨rfl, rfl⟩⟩⟩
  · rw [if_neg hz] at h h'
    obtain ⟨hE, rfl, rfl, rfl⟩ := h
    obtain ⟨hE', rfl, rfl, rfl⟩ := h'
    obtain ⟨m1, m2⟩ := ends_more hE hE' (by omega)
    refine ⟨fun h => ?_, fun h => ?_⟩
    · obtain rfl := m1 h
      exact ⟨rfl, rfl, rfl, rfl⟩
    · obtain ⟨e1, e2⟩ := m2 h
      refine ⟨e2, ?_, .inl e1⟩
      have := run_out_mono X (start z.toNat I) k (k' - k)
      rwa [show k + (k' - k) = k' by omega] at this
theorem small_of {n m : Nat} {mem fuel : Int} (h : smallB n mem m fuel = true) : n ≤ 200 ∧ (mem ≤ 300 ∨ 32000 < mem) ∧ m ≤ 100 ∧ fuel ≤ 2000 := by simpa [smallB] using h
end Go.Proofs.Ytmgpfhmodjmcdaa
