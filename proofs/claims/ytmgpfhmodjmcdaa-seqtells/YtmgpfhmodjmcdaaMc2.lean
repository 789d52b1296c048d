/-
  What instructions that reckon make: the program's calls.
-/
import Derived.Test.YtmgpfhmodjmcdaaMc
namespace Go.Proofs.Ytmgpfhmodjmcdaa
set_option maxRecDepth 20000
set_option linter.unusedVariables false
open Go.ChangeShapes Go.WideShapes Go.ChangeAt Go.RowKit

theorem ret_bool' {a b : Bool} (h : a = b) : Ending.returned (.bool a) = .returned (.bool b) := by rw [h]
theorem reckons_any (o : Int) (W : World) : Calls Try.prog 28 #[.int .i64 o] W fun e W' => e = .returned (.bool (reckonsB o)) ∧ W' = W := by
  by_cases h : 1 ≤ o
  · go_enter Try.func28, Try.ntmps28
    go_wp2
    go_ret
    refine ⟨ret_bool' ?_, rfl⟩
    unfold reckonsB
    rw [Bool.eq_iff_iff]; simp; omega
  · have h' : decide (1 ≤ o) = false := by simpa using h
    go_enter Try.func28, Try.ntmps28
    go_wp2
    go_ret
    refine ⟨ret_bool' ?_, rfl⟩
    unfold reckonsB
    rw [Bool.eq_iff_iff]; simp; omega
theorem truth_any (t : Bool) (W : World) : Calls Try.prog 48 #[.bool t] W fun e W' => e = .returned (.int .i64 (if t = true then 1 else 0)) ∧ W' = W := by
  cases t
  all_goals
    go_enter Try.func48, Try.ntmps48
    go_wp2
    go_ret
    exact ⟨rfl, rfl⟩
theorem divide_any (o b c : Int) (W : World) (ho : o = 4 ∨ o = 5) (hb : Wd b) (hc : Wd c) :
    Calls Try.prog 47 #[.int .i64 o, .int .i64 b, .int .i64 c] W fun e W' => e = .returned (.tuple #[.int .i64 (recV o 0 b c), .int .i64 (recT o c)]) ∧ Bel W W' := by
  have e1 := wd_wrap_id hb
  have e2 := wd_wrap_id hc
  by_cases h0 : c = 0
  · subst h0
    have hz : wrap32 0 = 0 := by unfold wrap32; decide
    have hv : recV o 0 b 0 = 0 := by rcases ho with rfl | rfl <;> simp [recV]
    have ht : recT o 0 = 4 := by rcases ho with rfl | rfl <;> simp [recT]
    rw [hv, ht]
    clear hv ht e1 e2
    go_enter Try.func47, Try.ntmps47
    go_wp2_with (go_at_call 57; refine (div_zero b 0 _ hz).mono ?_; rintro e w' ⟨rfl, rfl⟩)
    go_ret2
    exact ⟨rfl, Bel.refl _⟩
  · have h1 := div_any b c W (by rw [e2]; exact h0)
    rw [e1, e2] at h1
    have ht : recT o c = 0 := by unfold recT; rw [if_neg (by omega)]
    rw [ht]
    clear ht e1 e2
    rcases ho with rfl | rfl
    · have hv : recV 4 0 b c = wrap32 (b.tdiv c) := by simp [recV, h0]
      rw [hv]
      clear hv
      go_enter Try.func47, Try.ntmps47
      go_wp2_with (go_at_call 57; refine h1.mono ?_; rintro e w' ⟨rfl, n, rfl⟩)
      go_ret2
      exact ⟨rfl, Bel.drewN _ _⟩
    · have hv : recV 5 0 b c = b.tmod c := by simp [recV, h0]
      rw [hv]
      clear hv
      go_enter Try.func47, Try.ntmps47
      go_wp2_with (go_at_call 57; refine h1.mono ?_; rintro e w' ⟨rfl, n, rfl⟩)
      go_ret2
      exact ⟨rfl, Bel.drewN _ _⟩
theorem rec_div {o b c : Int} (i : Int) (ho : o = 4 ∨ o = 5) : recV o i b c = recV o 0 b c := by rcases ho with rfl | rfl <;> simp [recV]
set_option maxHeartbeats 4000000 in
theorem reckon_any (o a b c i : Int) (x y : Int) (W : World) (ho : 1 ≤ o ∧ o ≤ 11) (hx : Wd x) (hy : Wd y) :
    Calls Try.prog 30 #[.agg #[.int .i64 o, .int .i64 a, .int .i64 b, .int .i64 c, .int .i64 i], .int .i64 x, .int .i64 y] W fun e W' => e = .returned (.tuple #[.int .i64 (recV o i x y), .int .i64 (recT o y)]) ∧ Bel W W' := by
  have hB : ∀ u, Bel W (W.alloc u) := fun u => (Bel.refl W).alloc u
  by_cases hd : o = 4 ∨ o = 5
  · have h1 := divide_any o x y (W.alloc (.cells #[.int .i64 o, .int .i64 a, .int .i64 b, .int .i64 c, .int .i64 i] 34)) hd hx hy
    rw [rec_div i hd]
    have H := hidm h1
    clear h1
    rcases hd with rfl | rfl
    all_goals
      go_enter Try.func30, Try.ntmps30
      go_wp2_with (go_at_call 47; refine (Hid.out H).mono ?_; rintro e w' ⟨rfl, hb⟩)
      go_ret2
      exact ⟨rfl, btrans (hB _) hb⟩
  · have ht : recT o y = 0 := by unfold recT; rw [if_neg (by omega)]
    rw [ht]
    clear ht
    have hs : o = 1 ∨ o = 2 ∨ o = 3 ∨ o = 6 ∨ o = 7 ∨ o = 8 ∨ o = 9 ∨ o = 10 ∨ o = 11 := by omega
    clear hd ho
    rcases hs with rfl | rfl | rfl | rfl | rfl | rfl | rfl | rfl | rfl
    all_goals
      unfold recV
      go_enter Try.func30, Try.ntmps30
      go_wp2_with (first
        | (go_at_call 44; refine (add_any _ _ _).mono ?_; rintro e w' ⟨rfl, rfl⟩)
        | (go_at_call 45; refine (sub_any _ _ _).mono ?_; rintro e w' ⟨rfl, rfl⟩)
        | (go_at_call 46; refine (mul_any _ _ _).mono ?_; rintro e w' ⟨rfl, rfl⟩)
        | (go_at_call 48; refine (truth_any _ _).mono ?_; rintro e w' ⟨rfl, rfl⟩))
      all_goals
        go_ret2
        refine ⟨ret_two ?_ rfl, hB _⟩
        first | (simp; done) | (simp [*]; done) | simp_all
end Go.Proofs.Ytmgpfhmodjmcdaa
