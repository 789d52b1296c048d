/-
  The statements' spaced: code with a Nop behind each instruction.
-/
import Derived.Test.YthkhlkcdhalkfaaPz
import Derived.Test.YthkhlkcdhalkfaaApp7
namespace Go.Proofs.Ythkhlkcdhalkfaa
set_option maxRecDepth 20000
set_option linter.unusedVariables false
open Go.ChangeShapes Go.WideShapes Go.ChangeAt Go.RowKit

theorem spX_snoc (X : List Ins) (j : Nat) (hj : j < X.length) : spX (X.take (j + 1)) = spX (X.take j) ++ [sp (X.getD j Ins.zero), Ins.zero] := by
  unfold spX
  rw [List.take_succ_eq_append_getElem hj, List.flatMap_append]
  simp [hj]
theorem heap_new1 (w : World) (o1 o2 : Obj) : ((w.alloc o1).alloc o2).heap[w.heap.size + 1]? = some o2 := by
  have := heap_new (w.alloc o1) o2
  rwa [show (w.alloc o1).heap.size = w.heap.size + 1 by simp] at this
theorem code_of_row {w : World} {base : Nat} {v : Value} {X : List Ins} (h : w.ownsRow base 34 5 v X.length (flatC X)) : Code w v X := by
  rcases h.2 with ⟨e1, e2⟩ | ⟨g, cap, cur, e1, _⟩
  · subst e1
    have : X.length = 0 := by omega
    obtain rfl : X = [] := List.length_eq_zero_iff.1 this
    exact ⟨none, 0, rfl, fun hn => absurd hn (by simp)⟩
  · exact code_of_own h ⟨g, cap, e1⟩
set_option maxHeartbeats 4000000 in
theorem spaced_any (X : List Ins) (v : Value) (W : World) (hv : Code W v X) (hX : X.length ≤ 100) (hg : ∀ k, k < X.length → Good (X.getD k Ins.zero)) :
    Calls Try.prog 17 #[v] W fun e W' => ∃ v', e = .returned v' ∧ Code W' v' (spX X) ∧ Bel W W' := by
  obtain ⟨i0, hi, hz0, hz1, hz2⟩ := info_parts instrInfo
  obtain ⟨ao, cap, rfl, hc0⟩ := id hv
  go_enter Try.func17, Try.ntmps17
  go_wp2_with fail
  go_loopw [3, 8] (fun l i wr => ∃ j : Nat, j ≤ X.length ∧ i = .int .i64 j ∧ wr.ownsRow W.heap.size 34 5 l (spX (X.take j)).length (flatC (spX (X.take j))) ∧ Bel W wr) (fun _ i _ => X.length - (intOf i).toNat)
  case atStart => exact ⟨0, Nat.zero_le _, rfl, World.ownsRow_nil _ _ _ _, Bel.refl _⟩
  case round =>
    obtain ⟨j, hj, rfl, hrow, hB⟩ := hrel
    rename World => wr
    rename Value => l
    by_cases hlt : j < X.length
    · obtain ⟨bc, oc, rfl, hbc, hca⟩ := hc0 (by omega)
      obtain ⟨a0, a1, a2, a3, a4⟩ := (hca.stay hbc hB) j hlt
      have hG := hg j hlt
      have HS := hidm (spX_snoc X j hlt)
      have hl1 : (spX (X.take j)).length = 2 * j := by rw [spX_len, List.length_take]; omega
      rw [hl1] at hrow
      have hlt' : (j : Int) < X.length := by omega
      have hbs := hB.size
      have hlb : bc < wr.heap.size := by omega
      generalize X.getD j Ins.zero = x at *
      clear hca
      obtain ⟨o, xa, xb, xc, i⟩ := x
      dsimp only at *
      by_cases e15 : o = 15
      · subst e15
        obtain ⟨i1, i2⟩ := hG.2.2 (.inl rfl)
        rw [show sp ⟨15, xa, xb, xc, i⟩ = ⟨15, xa, xb, xc, 2 * i + 1⟩ from rfl] at HS
        dsimp only at i1 i2
        go_wp2_with (first
          | (at_builtin; refine wpList_append_own _ rfl _ _ 22 rfl W.heap.size 34 i0 _ 5 40 Try.underlying22 hi hz0 hz1 hz2 rfl (by decide) _ _ _ rfl ((hrow.alloc _).alloc _) ⟨wr.heap.size + 1, 0, none⟩ 2 2 (flatC [⟨15, xa, xb, xc, 2 * i + 1⟩, Ins.zero]) rfl rfl (World.news_of_block (cs := (flatC [⟨15, xa, xb, xc, 2 * i + 1⟩, Ins.zero]).toArray) (t := 34) (fr := (0, 0)) (heap_new1 wr _ _)) (flatC_one _) (by unfold maxLen; omega) (by omega) (by simp; omega) ?_; intro v1 w1 hown1 hgrow1 _))
        go_roundw
        case rel =>
          refine ⟨j + 1, by omega, by simp, ?_, ((hB.alloc _).alloc _).grown hgrow1 (fun k hk => (hrow.lt k hk).1)⟩
          rw [Hid.out HS, List.length_append, hl1, flatC_append]
          exact hown1
        case measure => simp [intOf]; omega
      by_cases e16 : o = 16
      · subst e16
        obtain ⟨i1, i2⟩ := hG.2.2 (.inr (.inl rfl))
        rw [show sp ⟨16, xa, xb, xc, i⟩ = ⟨16, xa, xb, xc, 2 * i + 1⟩ from rfl] at HS
        dsimp only at i1 i2
        go_wp2_with (first
          | (at_builtin; refine wpList_append_own _ rfl _ _ 22 rfl W.heap.size 34 i0 _ 5 40 Try.underlying22 hi hz0 hz1 hz2 rfl (by decide) _ _ _ rfl ((hrow.alloc _).alloc _) ⟨wr.heap.size + 1, 0, none⟩ 2 2 (flatC [⟨16, xa, xb, xc, 2 * i + 1⟩, Ins.zero]) rfl rfl (World.news_of_block (cs := (flatC [⟨16, xa, xb, xc, 2 * i + 1⟩, Ins.zero]).toArray) (t := 34) (fr := (0, 0)) (heap_new1 wr _ _)) (flatC_one _) (by unfold maxLen; omega) (by omega) (by simp; omega) ?_; intro v1 w1 hown1 hgrow1 _))
        go_roundw
        case rel =>
          refine ⟨j + 1, by omega, by simp, ?_, ((hB.alloc _).alloc _).grown hgrow1 (fun k hk => (hrow.lt k hk).1)⟩
          rw [Hid.out HS, List.length_append, hl1, flatC_append]
          exact hown1
        case measure => simp [intOf]; omega
      by_cases e17 : o = 17
      · subst e17
        obtain ⟨i1, i2⟩ := hG.2.2 (.inr (.inr rfl))
        rw [show sp ⟨17, xa, xb, xc, i⟩ = ⟨17, xa, xb, xc, 2 * i⟩ from rfl] at HS
        dsimp only at i1 i2
        go_wp2_with (first
          | (at_builtin; refine wpList_append_own _ rfl _ _ 22 rfl W.heap.size 34 i0 _ 5 40 Try.underlying22 hi hz0 hz1 hz2 rfl (by decide) _ _ _ rfl ((hrow.alloc _).alloc _) ⟨wr.heap.size + 1, 0, none⟩ 2 2 (flatC [⟨17, xa, xb, xc, 2 * i⟩, Ins.zero]) rfl rfl (World.news_of_block (cs := (flatC [⟨17, xa, xb, xc, 2 * i⟩, Ins.zero]).toArray) (t := 34) (fr := (0, 0)) (heap_new1 wr _ _)) (flatC_one _) (by unfold maxLen; omega) (by omega) (by simp; omega) ?_; intro v1 w1 hown1 hgrow1 _))
        go_roundw
        case rel =>
          refine ⟨j + 1, by omega, by simp, ?_, ((hB.alloc _).alloc _).grown hgrow1 (fun k hk => (hrow.lt k hk).1)⟩
          rw [Hid.out HS, List.length_append, hl1, flatC_append]
          exact hown1
        case measure => simp [intOf]; omega
      · rw [sp_id (x := ⟨o, xa, xb, xc, i⟩) e15 e16 e17] at HS
        have f15 : (o == 15) = false := by simpa using e15
        have f16 : (o == 16) = false := by simpa using e16
        have f17 : (o == 17) = false := by simpa using e17
        clear e15 e16 e17
        go_wp2_with (first
          | (at_builtin; refine wpList_append_own _ rfl _ _ 22 rfl W.heap.size 34 i0 _ 5 40 Try.underlying22 hi hz0 hz1 hz2 rfl (by decide) _ _ _ rfl ((hrow.alloc _).alloc _) ⟨wr.heap.size + 1, 0, none⟩ 2 2 (flatC [⟨o, xa, xb, xc, i⟩, Ins.zero]) rfl rfl (World.news_of_block (cs := (flatC [⟨o, xa, xb, xc, i⟩, Ins.zero]).toArray) (t := 34) (fr := (0, 0)) (heap_new1 wr _ _)) (flatC_one _) (by unfold maxLen; omega) (by omega) (by simp; omega) ?_; intro v1 w1 hown1 hgrow1 _))
        go_roundw
        case rel =>
          refine ⟨j + 1, by omega, by simp, ?_, ((hB.alloc _).alloc _).grown hgrow1 (fun k hk => (hrow.lt k hk).1)⟩
          rw [Hid.out HS, List.length_append, hl1, flatC_append]
          exact hown1
        case measure => simp [intOf]; omega
    · obtain rfl : j = X.length := by omega
      rw [List.take_length] at hrow
      go_wp2
      go_ret
      exact ⟨_, rfl, code_of_row hrow, hB⟩
end Go.Proofs.Ythkhlkcdhalkfaa
