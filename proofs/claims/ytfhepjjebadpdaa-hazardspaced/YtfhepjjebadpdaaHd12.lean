/-
  The contracts of package hazard: what stands in a slot, what is read too soon.
-/
import Derived.Test.YtfhepjjebadpdaaHc12
namespace Go.Proofs.Ytfhepjjebadpdaa
set_option maxRecDepth 20000
set_option linter.unusedVariables false
open Go.ChangeShapes Go.WideShapes Go.ChangeAt Go.RowKit

def fillB (X : List Ins) (k : Nat) : Bool := decide (k + 1 < X.length) && !(X.getD (k + 1) Ins.zero).goes
def slotB (X : List Ins) (k : Nat) : Bool := decide (0 < k) && (X.getD (k - 1) Ins.zero).goes
def soonB (X : List Ins) (k : Nat) : Bool := decide (k + 1 < X.length) && (X.getD (k + 1) Ins.zero).rds (X.getD k Ins.zero).wr

set_option maxHeartbeats 1000000 in
theorem fill_any (X : List Ins) (k : Nat) (v : Value) (w : World) (hX : X.length ≤ 5000) (hk : k < X.length) (hv : Code w v X) :
    Calls Try.prog 20 #[v, .int .i64 k] w fun e w' => e = .returned (.bool (fillB X k)) ∧ Bel w w' := by
  obtain ⟨ao, cap, rfl, hc⟩ := hv
  obtain ⟨b, o, rfl, hb, hca⟩ := hc (by omega)
  have hE : Hid (fillB X k = (decide (k + 1 < X.length) && !(X.getD (k + 1) Ins.zero).goes)) := rfl
  generalize fillB X k = r at hE ⊢
  by_cases h1 : k + 1 < X.length
  · obtain ⟨a0, a1, a2, a3, a4⟩ := hca (k + 1) h1
    have hgo := fun ww => goes_any (X.getD (k + 1) Ins.zero).o (X.getD (k + 1) Ins.zero).a (X.getD (k + 1) Ins.zero).b (X.getD (k + 1) Ins.zero).c (X.getD (k + 1) Ins.zero).i ww
    have hg : goesB (X.getD (k + 1) Ins.zero).o (X.getD (k + 1) Ins.zero).a (X.getD (k + 1) Ins.zero).b (X.getD (k + 1) Ins.zero).c (X.getD (k + 1) Ins.zero).i = (X.getD (k + 1) Ins.zero).goes := rfl
    rw [hg] at hgo
    clear hg
    have hE2 : Hid (r = !(X.getD (k + 1) Ins.zero).goes) := hidm (by rw [hE.out, decide_eq_true h1, Bool.true_and])
    have h2 : (k : Int) + 1 < X.length := by omega
    clear hE hca h1 hc
    generalize (X.getD (k + 1) Ins.zero).goes = g at hgo hE2
    generalize X.getD (k + 1) Ins.zero = x at a0 a1 a2 a3 a4 hgo
    go_enter Try.func20, Try.ntmps20
    go_wp2_with (go_at_call 19; refine (hgo _).mono ?_; rintro e w1 ⟨rfl, g1⟩)
    go_ret
    exact ⟨ret_bool hE2.out.symm, g1⟩
  · have hE2 : Hid (r = false) := hidm (by rw [hE.out, decide_eq_false h1, Bool.false_and])
    have h2 : ¬ (k : Int) + 1 < X.length := by omega
    clear hE hca h1 hc
    go_enter Try.func20, Try.ntmps20
    go_wp2
    go_ret
    exact ⟨ret_bool hE2.out.symm, Bel.refl _⟩
set_option maxHeartbeats 1000000 in
theorem slot_any (X : List Ins) (k : Nat) (v : Value) (w : World) (hX : X.length ≤ 5000) (hk : k < X.length) (hv : Code w v X) :
    Calls Try.prog 22 #[v, .int .i64 k] w fun e w' => e = .returned (.bool (slotB X k)) ∧ Bel w w' := by
  obtain ⟨ao, cap, rfl, hc⟩ := hv
  obtain ⟨b, o, rfl, hb, hca⟩ := hc (by omega)
  have hE : Hid (slotB X k = (decide (0 < k) && (X.getD (k - 1) Ins.zero).goes)) := rfl
  generalize slotB X k = r at hE ⊢
  clear hc
  cases k with
  | zero =>
    have hE2 : Hid (r = false) := hidm (by rw [hE.out]; simp)
    clear hE hca
    go_enter Try.func22, Try.ntmps22
    go_wp2
    go_ret
    exact ⟨ret_bool hE2.out.symm, Bel.refl _⟩
  | succ m =>
    obtain ⟨a0, a1, a2, a3, a4⟩ := hca m (by omega)
    have hgo := fun ww => goes_any (X.getD m Ins.zero).o (X.getD m Ins.zero).a (X.getD m Ins.zero).b (X.getD m Ins.zero).c (X.getD m Ins.zero).i ww
    have hg : goesB (X.getD m Ins.zero).o (X.getD m Ins.zero).a (X.getD m Ins.zero).b (X.getD m Ins.zero).c (X.getD m Ins.zero).i = (X.getD m Ins.zero).goes := rfl
    rw [hg] at hgo
    have hE2 : Hid (r = (X.getD m Ins.zero).goes) := hidm (by rw [hE.out, decide_eq_true (Nat.succ_pos m), Bool.true_and, Nat.succ_sub_one])
    clear hE hca hg
    generalize (X.getD m Ins.zero).goes = g at hgo hE2
    generalize X.getD m Ins.zero = x at a0 a1 a2 a3 a4 hgo
    have hm1 : (m : Int) < X.length := by omega
    have hm2 : (0 : Int) < (m : Int) + 1 := by omega
    go_enter Try.func22, Try.ntmps22
    go_wp2_with (go_at_call 19; refine (hgo _).mono ?_; rintro e w1 ⟨rfl, g1⟩)
    go_ret
    exact ⟨ret_bool hE2.out.symm, g1⟩
end Go.Proofs.Ytfhepjjebadpdaa
