/-
  What the reference's Check and Sys do: its Effect.
-/
import Derived.Test.YtmgpfhmodjmcdaaRe
namespace Go.Proofs.Ytmgpfhmodjmcdaa
set_option maxRecDepth 20000
set_option linter.unusedVariables false
open Go.ChangeShapes Go.WideShapes Go.ChangeAt Go.RowKit

section
variable {A W : World} {b gr gm : Nat} {ov : Value} {I : List Int} {s : St} {rd : Nat} {t : Int}
set_option maxHeartbeats 2000000 in
theorem eff14 (h : IsR A W b gr gm ov I s rd t) (a xb xc i va vb four : Int) (iv : Value) (hb : Wd vb) (hi : -32768 ≤ i ∧ i ≤ 32767) :
    Calls Try.prog 40 #[.pointer (some ⟨b, 0, none⟩), .agg #[.int .i64 14, .int .i64 a, .int .i64 xb, .int .i64 xc, .int .i64 i], .int .i64 va, .int .i64 vb, .int .i64 four, iv] W fun e W' =>
      e = .returned (.tuple #[.int .i64 (chkT va i xb), .int .i64 0]) ∧ Bel W W' := by
  obtain ⟨b1, b2⟩ := hb
  have h1 := h.stay ((Bel.refl W).alloc (insB 14 a xb xc i))
  obtain ⟨c0, c1, c2, c3, c4, c5⟩ := refB_cells h1.box
  unfold insB at c1
  have HB := hidm ((Bel.refl W).alloc (insB 14 a xb xc i))
  clear h h1 c0 c2 c3 c4 c5
  generalize hat : wrap32 (vb + i) = z
  have HAT := hidm hat
  clear hat
  by_cases hv : 0 ≤ va ∧ va < i
  · have e : chkT va i xb = 0 := by unfold chkT; rw [if_pos hv]
    rw [e]
    obtain ⟨v0, v1⟩ := hv
    have v0' : ¬ va < 0 := by omega
    have v1' : ¬ i ≤ va := by omega
    clear e v0
    rcases Int.lt_or_le z 0 with hz | hz
    all_goals
      go_enter Try.func40, Try.ntmps40
      go_wp2_with (go_at_call 21; refine (refWrap_any _ _ (by omega) (by omega)).mono ?_; rintro e w' ⟨rfl, rfl⟩; rw [Hid.out HAT])
      go_ret2
      exact ⟨rfl, Hid.out HB⟩
  · have hcase : va < 0 ∨ (¬ va < 0 ∧ i ≤ va) := by omega
    by_cases hx : xb = 0
    · have e : chkT va i xb = 5 := by unfold chkT; rw [if_neg hv, if_pos hx]
      rw [e]
      have hx' : (xb == 0) = true := by simpa using hx
      clear e hv hx
      rcases Int.lt_or_le z 0 with hz | hz
      all_goals
        rcases hcase with q | ⟨q, q2⟩
        all_goals
          go_enter Try.func40, Try.ntmps40
          go_wp2_with (go_at_call 21; refine (refWrap_any _ _ (by omega) (by omega)).mono ?_; rintro e w' ⟨rfl, rfl⟩; rw [Hid.out HAT])
          go_ret2
          exact ⟨rfl, Hid.out HB⟩
    · have e : chkT va i xb = xb := by unfold chkT; rw [if_neg hv, if_neg hx]
      rw [e]
      have hx' : (xb == 0) = false := by simpa using hx
      clear e hv hx
      rcases Int.lt_or_le z 0 with hz | hz
      all_goals
        rcases hcase with q | ⟨q, q2⟩
        all_goals
          go_enter Try.func40, Try.ntmps40
          go_wp2_with (go_at_call 21; refine (refWrap_any _ _ (by omega) (by omega)).mono ?_; rintro e w' ⟨rfl, rfl⟩; rw [Hid.out HAT])
          go_ret2
          exact ⟨rfl, Hid.out HB⟩
theorem eff200 (h : IsR A W b gr gm ov I s rd t) (a xb xc va vb four : Int) (iv : Value) (hb : Wd vb) :
    Calls Try.prog 40 #[.pointer (some ⟨b, 0, none⟩), .agg #[.int .i64 20, .int .i64 a, .int .i64 xb, .int .i64 xc, .int .i64 0], .int .i64 va, .int .i64 vb, .int .i64 four, iv] W fun e W' =>
      e = .returned (.tuple #[.int .i64 1, .int .i64 0]) ∧ Bel W W' := by
  obtain ⟨b1, b2⟩ := hb
  have h1 := h.stay ((Bel.refl W).alloc (insB 20 a xb xc 0))
  obtain ⟨c0, c1, c2, c3, c4, c5⟩ := refB_cells h1.box
  unfold insB at c1
  have HB := hidm ((Bel.refl W).alloc (insB 20 a xb xc 0))
  clear h h1 c0 c2 c3 c4 c5
  rcases Int.lt_or_le (wrap32 vb) 0 with hz | hz
  all_goals
    go_enter Try.func40, Try.ntmps40
    go_wp2_with (go_at_call 21; refine (refWrap_any _ _ (by omega) (by omega)).mono ?_; rintro e w' ⟨rfl, rfl⟩)
    go_ret2
    exact ⟨rfl, Hid.out HB⟩
theorem eff201n (h : IsR A W b gr gm ov I s rd t) (a xb xc va vb four : Int) (ai : Option Addr) (ci : Nat) (hb : Wd vb) (hr : I.length ≤ rd) :
    Calls Try.prog 40 #[.pointer (some ⟨b, 0, none⟩), .agg #[.int .i64 20, .int .i64 a, .int .i64 xb, .int .i64 xc, .int .i64 1], .int .i64 va, .int .i64 vb, .int .i64 four, .slice ai I.length ci] W fun e W' =>
      e = .returned (.tuple #[.int .i64 6, .int .i64 0]) ∧ Bel W W' := by
  obtain ⟨b1, b2⟩ := hb
  have h1 := h.stay ((Bel.refl W).alloc (insB 20 a xb xc 1))
  obtain ⟨c0, c1, c2, c3, c4, c5⟩ := refB_cells h1.box
  unfold insB at c1 c3
  have HB := hidm ((Bel.refl W).alloc (insB 20 a xb xc 1))
  have hr' : (I.length : Int) ≤ rd := by omega
  clear h h1 c0 c2 c4 c5
  rcases Int.lt_or_le (wrap32 (vb + 1)) 0 with hz | hz
  all_goals
    go_enter Try.func40, Try.ntmps40
    go_wp2_with (go_at_call 21; refine (refWrap_any _ _ (by omega) (by omega)).mono ?_; rintro e w' ⟨rfl, rfl⟩)
    go_ret2
    exact ⟨rfl, Hid.out HB⟩
theorem eff202f (h : IsR A W b gr gm ov I s rd t) (a xb xc va vb four : Int) (iv : Value) (hb : Wd vb) (hf : 10000 ≤ s.out.length) :
    Calls Try.prog 40 #[.pointer (some ⟨b, 0, none⟩), .agg #[.int .i64 20, .int .i64 a, .int .i64 xb, .int .i64 xc, .int .i64 2], .int .i64 va, .int .i64 vb, .int .i64 four, iv] W fun e W' =>
      e = .returned (.tuple #[.int .i64 9, .int .i64 0]) ∧ Bel W W' := by
  obtain ⟨b1, b2⟩ := hb
  have h1 := h.stay ((Bel.refl W).alloc (insB 20 a xb xc 2))
  obtain ⟨c0, c1, c2, c3, c4, c5⟩ := refB_cells h1.box
  obtain ⟨ao, co, rfl⟩ := row_slice h.out
  unfold insB at c1 c4
  have HB := hidm ((Bel.refl W).alloc (insB 20 a xb xc 2))
  have hf' : (9999 : Int) < s.out.length := by omega
  clear h h1 c0 c2 c3 c5
  rcases Int.lt_or_le (wrap32 (vb + 2)) 0 with hz | hz
  all_goals
    go_enter Try.func40, Try.ntmps40
    go_wp2_with (go_at_call 21; refine (refWrap_any _ _ (by omega) (by omega)).mono ?_; rintro e w' ⟨rfl, rfl⟩)
    go_ret2
    exact ⟨rfl, Hid.out HB⟩
set_option maxHeartbeats 1000000 in
theorem eff201c (h : IsR A W b gr gm ov I s rd t) (a xb xc va vb four : Int) (ai : Option Addr) (ci : Nat) (hb : Wd vb) (hr : rd < I.length) (hv : IntsC A (.slice ai I.length ci) I) (hI : ∀ x ∈ I, (Lit.int .i64 x).wf = true) (hrd : rd ≤ 1000000) :
    Calls Try.prog 40 #[.pointer (some ⟨b, 0, none⟩), .agg #[.int .i64 20, .int .i64 a, .int .i64 xb, .int .i64 xc, .int .i64 1], .int .i64 va, .int .i64 vb, .int .i64 four, .slice ai I.length ci] W fun e W' =>
      e = .returned (.tuple #[.int .i64 0, .int .i64 (wrap32 (I[rd]?.getD 0))]) ∧ IsR A W' b gr gm ov I { s with inp := I.drop (rd + 1) } (rd + 1) t ∧ Kept (MutR A.heap.size) W W' := by
  obtain ⟨b1, b2⟩ := hb
  have h1 := h.stay ((Bel.refl W).alloc (insB 20 a xb xc 1))
  obtain ⟨c0, c1, c2, c3, c4, c5⟩ := refB_cells h1.box
  have f3 := frozen_of h1.box 3
  obtain ⟨ai', ci', e, _, hcc⟩ := hv
  injection e with e1 e2 e3
  subst e1
  obtain ⟨b0, o0, rfl, hb0, hcell⟩ := hcc (by omega)
  have d1 := ((bcell h1.bel).1 b0 (o0 + rd) hb0).trans (hcell rd hr)
  have hin : (I[rd]?.getD 0) ∈ I := by simp [hr]
  obtain ⟨i1, i2⟩ := wf_i64 (hI _ hin)
  have HS : Hid (IsR A ((W.alloc (insB 20 a xb xc 1)).setCell ⟨b, 3, none⟩ (.int .i64 ((rd : Int) + 1))) b gr gm ov I { s with inp := I.drop (rd + 1) } (rd + 1) t ∧ Kept (MutR A.heap.size) (W.alloc (insB 20 a xb xc 1)) ((W.alloc (insB 20 a xb xc 1)).setCell ⟨b, 3, none⟩ (.int .i64 ((rd : Int) + 1)))) := hidm (h1.setBox 3 (.int .i64 ((rd : Int) + 1)) s.place (rd + 1) t (I.drop (rd + 1)) rfl (by unfold refB; push_cast; rfl))
  have hbb : b ≠ b0 := by have := h1.low; omega
  have hbb' := hbb.symm
  unfold insB at c1 c3 f3 d1
  have HK := hidm (Kept.alloc (MutR A.heap.size) W (insB 20 a xb xc 1))
  have hr' : ¬ ((I.length : Int) ≤ rd) := by omega
  have hr2 : (rd : Int) < I.length := by omega
  generalize I[rd]?.getD 0 = x at d1 i1 i2 ⊢
  clear h h1 c0 c2 c4 c5 hcell hcc hin
  rcases Int.lt_or_le (wrap32 (vb + 1)) 0 with hz | hz
  all_goals
    go_enter Try.func40, Try.ntmps40
    go_wp2_with (go_at_call 21; refine (refWrap_any _ _ (by omega) (by omega)).mono ?_; rintro e w' ⟨rfl, rfl⟩)
    go_ret2
    exact ⟨rfl, (Hid.out HS).1, (Hid.out HK).trans (Hid.out HS).2⟩
end
end Go.Proofs.Ytmgpfhmodjmcdaa
