/-
  The statements' fixed answer; memories behind a store of their own.
-/
import Derived.Test.YtpmjkdhnoknhlaaMem2
namespace Go.Proofs.Ytpmjkdhnoknhlaa
set_option linter.unusedVariables false
open Go.ChangeShapes Go.WideShapes Go.ChangeAt Go.RowKit

theorem load_at {n₀ b g : Nat} {W : World} {L : List Int} (h : IsM n₀ W b g L) (z : Int) (k : Nat) (hz : z = k) (h1 : k < L.length) :
    Calls Try.prog 13 #[.pointer (some ⟨b, 0, none⟩), .int .i64 z] W fun e w' => e = .returned (.tuple #[.int .i64 (L[k]?.getD 0), .bool true]) ∧ w' = W := by
  subst hz; exact load_in h k h1
theorem store_at {n₀ b g : Nat} {W : World} {L : List Int} (h : IsM n₀ W b g L) (z : Int) (k : Nat) (v : Int) (hz : z = k) (h1 : k < L.length) :
    Calls Try.prog 11 #[.pointer (some ⟨b, 0, none⟩), .int .i64 z, .int .i64 v] W fun e w' => e = .returned (.bool true) ∧ IsM n₀ w' b g (L.set k (wrap32 v)) ∧ Kept (fun j _ => j = g) W w' := by
  subst hz; exact store_in h k v h1
/-- Behind a store: what was there ahead of the memory is as it was. -/
theorem bel_store {a W W' : World} {g : Nat} (hB : Bel a W) (hk : Kept (fun j _ => j = g) W W') (hg : a.heap.size ≤ g) : Bel a W' :=
  hB.out.trans (hk.below hB.size (fun k o _ e => by subst e; exact hg))
theorem row_store {W W' : World} {n g m : Nat} {e : TypeId} {v : Value} {xs : List Value} (h : W.ownsRow n e 1 v m xs) (hk : Kept (fun j _ => j = g) W W') (hg : g < n) : W'.ownsRow n e 1 v m xs :=
  row_kept h hk (fun k c f e1 e2 => by subst e2; have := (h.lt k e1).1; omega)
theorem row_bel {W W' : World} {n m : Nat} {e : TypeId} {v : Value} {xs : List Value} (h : W.ownsRow n e 1 v m xs) (hb : Bel W W') : W'.ownsRow n e 1 v m xs :=
  row_kept (S := fun _ _ => False) h (Kept.of_bel hb) (fun _ _ _ _ h => h)
theorem Ints.cells {q : IntKind} {W : World} {ao : Option Addr} {n c : Nat} {X : List Int} (h : Ints q W (.slice ao n c) X) : n = X.length ∧ (0 < X.length → ∃ b o, ao = some ⟨b, o, none⟩ ∧ b < W.heap.size ∧ ∀ j, j < X.length → W.cell? ⟨b, o + j, none⟩ = some (.int q (X[j]?.getD 0))) := by
  obtain ⟨ao', c', e, hv⟩ := h
  injection e with e1 e2 e3
  subst e1
  exact ⟨e2, hv⟩
theorem w32_id (x : Int) (h1 : -2147483648 ≤ x) (h2 : x ≤ 2147483647) : wrap32 x = x := by unfold wrap32; omega
theorem new_three (W : World) : Calls Try.prog 10 #[.int .i64 3] W fun e w' => e = .returned (.pointer (some ⟨W.heap.size + 1, 0, none⟩)) ∧ IsM W.heap.size w' (W.heap.size + 1) W.heap.size [0, 0, 0] ∧ Bel W w' := new_any 3 3 rfl (by omega) W
theorem store_three {n₀ b g : Nat} {W : World} (h : IsM n₀ W b g [0, 0, 0]) :
    Calls Try.prog 11 #[.pointer (some ⟨b, 0, none⟩), .int .i64 1, .int .i64 4294967301] W fun e w' => e = .returned (.bool true) ∧ IsM n₀ w' b g [0, 5, 0] ∧ Kept (fun j _ => j = g) W w' := by
  have h' := store_at h 1 1 4294967301 rfl (by decide)
  rwa [show ([0, 0, 0] : List Int).set 1 (wrap32 4294967301) = [0, 5, 0] from by unfold wrap32; decide] at h'
theorem load_three {n₀ b g : Nat} {W : World} (h : IsM n₀ W b g [0, 5, 0]) :
    Calls Try.prog 13 #[.pointer (some ⟨b, 0, none⟩), .int .i64 1] W fun e w' => e = .returned (.tuple #[.int .i64 5, .bool true]) ∧ w' = W := load_at h 1 1 rfl (by decide)
theorem len_three {n₀ b g : Nat} {W : World} (h : IsM n₀ W b g [0, 5, 0]) :
    Calls Try.prog 14 #[.pointer (some ⟨b, 0, none⟩)] W fun e w' => e = .returned (.int .i64 3) ∧ w' = W := len_any h
theorem used_three {n₀ b g : Nat} {W : World} (h : IsM n₀ W b g [0, 5, 0]) :
    Calls Try.prog 17 #[.pointer (some ⟨b, 0, none⟩)] W fun e w' => ∃ a c, e = .returned (.slice a 2 c) ∧ Bel W w' := by
  refine (used_any h (by decide)).mono ?_
  rintro e w' ⟨k, v, hk, rfl, hr, hB⟩
  obtain rfl : k = 2 := endAt_one hk ⟨by decide, fun j h1 h2 => by
    have : j = 2 := by simp at h2; omega
    subst this
    rfl, .inr (by decide)⟩
  obtain ⟨ao, cap, rfl, _⟩ := ints_of_row hr
  exact ⟨ao, cap, rfl, hB⟩
set_option maxHeartbeats 1000000 in
theorem awake_any (w : World) : Calls Try.prog 9 #[] w fun e w' => e = .returned (.bool true) ∧ Bel w w' := by
  go_enter Try.func9, Try.ntmps9
  go_wp2_with (first
    | (go_at_call 17; refine (used_three m2).mono ?_; rintro e w3 ⟨a3, c3, rfl, B3⟩)
    | (go_at_call 14; refine (len_three m2).mono ?_; rintro e w' ⟨rfl, rfl⟩)
    | (go_at_call 13; refine (load_three m2).mono ?_; rintro e w' ⟨rfl, rfl⟩)
    | (go_at_call 11; refine (store_out m2 3 1 (.inr (by decide))).mono ?_; rintro e w' ⟨rfl, rfl⟩)
    | (go_at_call 11; refine (store_three m1).mono ?_; rintro e w2 ⟨rfl, m2, k2⟩; have B2 := bel_store B1 k2 (Nat.le_refl _))
    | (go_at_call 10; refine (new_three _).mono ?_; rintro e w1 ⟨rfl, m1, B1⟩))
  go_ret
  exact ⟨rfl, btrans B2 B3⟩
end Go.Proofs.Ytpmjkdhnoknhlaa
