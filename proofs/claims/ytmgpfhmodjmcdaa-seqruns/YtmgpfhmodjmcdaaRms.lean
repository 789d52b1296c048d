/-
  The reference's set (stage 7).
-/
import Derived.Test.YtmgpfhmodjmcdaaRm
namespace Go.Proofs.Ytmgpfhmodjmcdaa
set_option maxRecDepth 20000
set_option linter.unusedVariables false
open Go.ChangeShapes Go.WideShapes Go.ChangeAt Go.RowKit

set_option maxRecDepth 20000 in
set_option maxHeartbeats 1000000 in
theorem rset_any {A W : World} {b gr gm : Nat} {ov : Value} {I : List Int} {s : St} {rd : Nat} {t : Int} (h : IsR A W b gr gm ov I s rd t) (z u : Int) (hz : 0 ≤ z ∧ z ≤ 31) (hu : Mid u) :
    Calls Try.prog 41 #[.pointer (some ⟨b, 0, none⟩), .int .i64 z, .int .i64 u] W fun e W' => e = .returned (.tuple #[]) ∧ IsR A W' b gr gm ov I { s with regs := setR s.regs z (wrap32 u) } rd t ∧ Kept (MutR A.heap.size) W W' := by
  obtain ⟨k, rfl⟩ := nat_of hz.1
  by_cases h0 : k = 0
  · subst h0
    go_enter Try.func41, Try.ntmps41
    go_wp2
    go_end0
    exact ⟨rfl, h, Kept.refl _ _⟩
  · obtain ⟨c0, _⟩ := refB_cells h.box
    have c1 := h.regAt k (by omega)
    have f1 := frozen_of h.rr k
    have h0' : ((k : Int) == 0) = false := by simp; omega
    have hk : (k : Int) < 32 := by omega
    obtain ⟨r1, r2⟩ := h.setReg k (by omega) h0 (wrap32 u) (wd_wrap u)
    have e : setR s.regs k (wrap32 u) = s.regs.set k (wrap32 u) := by unfold setR; rw [if_neg (by omega), Int.toNat_natCast]
    rw [e]
    obtain ⟨n1, n2, n3⟩ := h.bne
    have n1' := n1.symm
    have HR1 := hidm r1
    have HR2 := hidm r2
    unfold Mid at hu
    clear e r1 r2 h
    go_enter Try.func41, Try.ntmps41
    go_wp2_with fail
    go_region_held3 (fun w' => w'.cell? ⟨b, 0, none⟩ = some (.slice (some ⟨gr, 0, none⟩) 32 32)) (go_keep) (first
      | (go_at_call 21; refine (refWrap_any _ _ (by omega) (by omega)).mono ?_; rintro e w' ⟨rfl, rfl⟩))
    go_wp2
    go_end0
    exact ⟨rfl, (Hid.out HR1).stay ((Bel.refl _).drew), (Hid.out HR2).trans (Kept.drew _ _)⟩
end Go.Proofs.Ytmgpfhmodjmcdaa
