/-
  The statements' fixed answer (stage 7).
-/
import Derived.Test.YtmgpfhmodjmcdaaRunC
import Derived.Test.YtmgpfhmodjmcdaaEq7
namespace Go.Proofs.Ytmgpfhmodjmcdaa
set_option maxRecDepth 20000
set_option linter.unusedVariables false
open Go.ChangeShapes Go.WideShapes Go.ChangeAt Go.RowKit

def awkX : List Ins := [⟨10, 4, 0, 0, 7⟩, ⟨20, 0, 0, 0, 2⟩, ⟨20, 0, 0, 0, 0⟩]
theorem awk_ends {k : Nat} (h : Ends awkX (start 0 []) 9 k) : k = 3 ∧ (runK awkX (start 0 []) k).1 = 1 ∧ (runK awkX (start 0 []) k).2.out = [7] := by
  have e : Ends awkX (start 0 []) 9 3 := ⟨by omega, fun j hj => by
    obtain rfl | rfl | rfl : j = 0 ∨ j = 1 ∨ j = 2 := by omega
    · rfl
    · decide +kernel
    · decide +kernel, .inl (by decide +kernel)⟩
  obtain rfl := ends_one h e
  exact ⟨rfl, by decide +kernel, by decide +kernel⟩
theorem run_awake (v : Value) (W : World) (hv : Code W v awkX) :
    Calls Try.prog 16 #[v, .int .i64 0, .slice none 0 0, .int .i64 9] W fun e W' => ∃ (b o ca : Nat) (am : Option Addr) (nm cm : Nat), e = .returned (.agg #[.int .i64 1, .int .i64 3, .slice (some ⟨b, o, none⟩) 1 ca, .slice am nm cm]) ∧ W'.cell? ⟨b, o, none⟩ = some (.int .i64 7) ∧ b < W'.heap.size ∧ Bel W W' := by
  refine (run_c awkX v (.slice none 0 0) 0 9 [] W hv (intsC_nil W) (by decide) (by omega) (by omega)).mono ?_
  rintro e W' ⟨k, ao, ca, am, cm, hE, rfl, ho, hm, hB, _, _⟩
  obtain ⟨e1, e2, e3⟩ : k = 3 ∧ (runK awkX (start (Int.toNat 0) []) k).1 = 1 ∧ (runK awkX (start (Int.toNat 0) []) k).2.out = [7] := awk_ends hE
  rw [e2, e3, e1]
  rw [e3] at ho
  obtain ⟨ao', ca', e, hc⟩ := ho
  obtain ⟨b, o, rfl, hb, hcell⟩ := hc (by decide)
  injection e with e4 e5 e6
  subst e4
  exact ⟨b, o, ca, am, _, cm, rfl, hcell 0 (by decide), hb, hB⟩
set_option maxRecDepth 20000 in
set_option maxHeartbeats 1000000 in
theorem awake_any (w : World) : Calls Try.prog 14 #[] w fun e w' => e = .returned (.bool true) ∧ Bel w w' := by
  go_enter Try.func14, Try.ntmps14
  go_wp2_with (first
    | (go_at_call 16; refine (run_awake _ _ (code_lit (X := awkX) (heap_new w _) 3 3 rfl)).mono ?_; rintro e w2 ⟨b, o, ca, am, nm, cm, rfl, hc, hb, hB⟩; obtain ⟨hc2, hf2⟩ := bcell hB))
  go_ret
  exact ⟨rfl, (btrans ((Bel.refl w).alloc _) hB).alloc _⟩
end Go.Proofs.Ytmgpfhmodjmcdaa
