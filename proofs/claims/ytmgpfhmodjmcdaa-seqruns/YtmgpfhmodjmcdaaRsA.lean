/-
  A step of the reference's machine.
-/
import Derived.Test.YtmgpfhmodjmcdaaRe3
import Derived.Test.YtmgpfhmodjmcdaaRms
namespace Go.Proofs.Ytmgpfhmodjmcdaa
set_option maxRecDepth 20000
set_option linter.unusedVariables false
open Go.ChangeShapes Go.WideShapes Go.ChangeAt Go.RowKit

/-- What a step leaves. -/
def After (A W W' : World) (b gr gm : Nat) (I : List Int) (r : Int × St) (rd : Nat) : Prop :=
  (∃ ov' rd' p', IsR A W' b gr gm ov' I { r.2 with place := p' } rd' r.1 ∧ (r.1 = 0 → p' = r.2.place) ∧ rd' ≤ rd + 1) ∧ Kept (MutR A.heap.size) W W'
theorem insR_kept {n₀ : Nat} {W W' : World} {k : Nat} {o a b c i : Int} (hk : Kept (MutR n₀) W W') (h : W.heap[k]? = some (insB o a b c i)) : W'.heap[k]? = some (insB o a b c i) := keptR_box hk h (by decide) (by decide)
section
variable {A W : World} {b gr gm : Nat} {ov : Value} {I : List Int} {s : St} {rd : Nat}
set_option maxRecDepth 100000 in
set_option maxHeartbeats 2000000 in
theorem rstep_out (h : IsR A W b gr gm ov I s rd 0) (X : List Ins) (ao : Option Addr) (c : Nat) (iv : Value) (hp : s.place < 0 ∨ X.length ≤ s.place) :
    Calls Try.prog 26 #[.pointer (some ⟨b, 0, none⟩), .slice ao X.length c, iv] W fun e W' => e = .returned (.tuple #[]) ∧ After A W W' b gr gm I (stepM X s) rd := by
  have hst : stepM X s = (2, s) := by unfold stepM; rw [if_pos hp]
  rw [hst]
  obtain ⟨c0, c1, c2, c3, c4, c5⟩ := refB_cells h.box
  have f5 := frozen_of h.box 5
  have HS := hidm (h.setBox 5 (.int .i64 2) s.place rd 2 s.inp h.inp rfl)
  clear hst c0 c1 c3 c4
  have hcase : s.place < 0 ∨ (0 ≤ s.place ∧ (X.length : Int) ≤ s.place) := by omega
  clear h hp
  rcases hcase with q | ⟨q, q2⟩
  all_goals
    go_enter Try.func26, Try.ntmps26
    go_wp2
    refine bodyPost_ret (results_none rfl _ _ _) rfl ?_
    exact ⟨rfl, ⟨ov, rd, s.place, (Hid.out HS).1, fun h => absurd h (show ¬ ((2 : Int) = 0) by decide), Nat.le_succ _⟩, (Hid.out HS).2⟩
set_option maxRecDepth 100000 in
set_option maxHeartbeats 2000000 in
theorem rstep_wrong (h : IsR A W b gr gm ov I s rd 0) (X : List Ins) (cv : Value) (ai : Option Addr) (ci : Nat) (hv : Code A cv X) (hi : IntsC A (.slice ai I.length ci) I) (hI : ∀ x ∈ I, (Lit.int .i64 x).wf = true) (hrd : rd ≤ 1000000) (k : Nat) (hp : s.place = k) (hk : k < X.length) (hX : X.length ≤ 4096) (hr : ¬ (X.getD k Ins.zero).right = true) :
    Calls Try.prog 26 #[.pointer (some ⟨b, 0, none⟩), cv, .slice ai I.length ci] W fun e W' => e = .returned (.tuple #[]) ∧ After A W W' b gr gm I (stepM X s) rd := by
  obtain ⟨ao, cap, rfl, hc⟩ := id hv
  obtain ⟨bc, oc, rfl, hbc, hca⟩ := hc (by omega)
  obtain ⟨a0, a1, a2, a3, a4⟩ := (hca.stay hbc h.bel) k hk
  obtain ⟨c0, c1, c2, c3, c4, c5⟩ := refB_cells h.box
  rw [hp] at c2
  have hk1 : (k : Int) < X.length := by omega
  have hk0 : (0 : Int) ≤ (k : Int) := by omega
  have hd : decide ((k : Int) < 0) = false := by simp
  have hstep : stepM X s = if (X.getD k Ins.zero).right = true then actM (X.getD k Ins.zero) s else (8, s) := by
    unfold stepM
    rw [if_neg (by omega), hp, Int.toNat_natCast]
  have HStep := hidm hstep
  clear hstep hc hca
  generalize X.getD k Ins.zero = x at *
  have HV : Hid (Bel W (W.alloc (insB x.o x.a x.b x.c x.i))) := hidm ((Bel.refl W).alloc _)
  have HH := hidm h
  have he1 := Hid.out HStep
  rw [if_neg hr] at he1
  rw [he1]
  clear he1
  have HR : Hid (∀ w, Calls Try.prog 19 #[.agg #[.int .i64 x.o, .int .i64 x.a, .int .i64 x.b, .int .i64 x.c, .int .i64 x.i]] w fun e w' => e = .returned (.bool false) ∧ Bel w w') := hidm (fun w => by
    have := refRight_any x.o x.a x.b x.c x.i w
    rw [show rightB x.o x.a x.b x.c x.i = false from by simpa [Ins.right] using hr] at this
    exact this)
  clear hr HStep h
  go_enter Try.func26, Try.ntmps26
  go_wp2_with (first
    | (go_at_call 19; refine (Hid.out HR _).mono ?_; rintro e w2 ⟨rfl, B2⟩; have B02 := btrans (Hid.out HV) B2; have h2 := (Hid.out HH).stay B02; have q5 := (refB_cells h2.box).2.2.2.2.2; have f5 := frozen_of h2.box 5; have HS := hidm (h2.setBox 5 (.int .i64 8) s.place rd 8 s.inp h2.inp rfl); have HB02 := hidm B02; clear h2 B02))
  refine bodyPost_ret (results_none rfl _ _ _) rfl ?_
  exact ⟨rfl, ⟨ov, rd, s.place, (Hid.out HS).1, fun h => absurd h (show ¬ ((8 : Int) = 0) by decide), Nat.le_succ _⟩, (Kept.of_bel (Hid.out HB02)).trans (Hid.out HS).2⟩
end
end Go.Proofs.Ytmgpfhmodjmcdaa
