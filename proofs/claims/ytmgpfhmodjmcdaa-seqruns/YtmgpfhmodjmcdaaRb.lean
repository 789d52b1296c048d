/-
  The reference's Begin: a new machine.
-/
import Derived.Test.YtmgpfhmodjmcdaaRe3
namespace Go.Proofs.Ytmgpfhmodjmcdaa
set_option maxRecDepth 20000
set_option linter.unusedVariables false
open Go.ChangeShapes Go.WideShapes Go.ChangeAt Go.RowKit

theorem make_row (n : Nat) (hn : n ≤ 32000) (W : World) : (Instr.makeSlice 23 (.int .i64 (n : Int)) (.int .i64 (n : Int))).run Try.prog W = .ok (.slice (some ⟨W.heap.size, 0, none⟩) n n) (W.alloc (.cells (((List.replicate n (0 : Int)).map (Value.int .i64)).toArray) 3)) := by
  obtain ⟨i0, hi, hz0, hz1, hz2⟩ := info_parts intInfo
  have h := run_make (P := Try.prog) W 23 3 i0 (.int .i64 0) Try.underlying23 hi hz0 .i64 .i64 (n : Int) (n : Int) (by omega) (by omega) (by rw [hz2]; omega) (by omega)
  rw [hz1, Int.toNat_natCast, made_zero] at h
  exact h
theorem begin_box {W : World} {C D : Array Value} {n : Nat} (I : List Int) (hn : n ≤ 32000) {gr gm b : Nat} {W' : World} (hb : W'.heap[b]? = some (.cells (refB gr gm n 0 0 (.slice none 0 0) 0) 61 (0, 0))) (h1 : W.heap.size ≤ b) (h2 : W.heap.size ≤ gr) (h3 : W.heap.size ≤ gm) (hne : gr ≠ gm)
    (hC : C = ((List.replicate 32 (0 : Int)).map (Value.int .i64)).toArray) (hD : D = ((List.replicate n (0 : Int)).map (Value.int .i64)).toArray) (hr : W'.heap[gr]? = some (.cells C 3 (0, 0))) (hm : W'.heap[gm]? = some (.cells D 3 (0, 0))) (hB : Bel W W') : IsR W W' b gr gm (.slice none 0 0) I (start n I) 0 0 := by
  subst hC hD
  exact ⟨by simpa [start] using hb, hr, hm, h1, h2, h3, hne, World.ownsRow_nil _ _ _ _, (by intro e; cases e), (by intro e; cases e), hB, start_ok _ _, (by simp [start]; omega), (by simp [start]), rfl⟩
theorem three (W : World) (o1 o2 o3 : Obj) : (((W.alloc o1).alloc o2).alloc o3).drew.heap[W.heap.size]? = some o1 ∧ (((W.alloc o1).alloc o2).alloc o3).drew.heap[W.heap.size + 1]? = some o2 ∧ (((W.alloc o1).alloc o2).alloc o3).drew.heap[W.heap.size + 1 + 1]? = some o3 ∧ Bel W (((W.alloc o1).alloc o2).alloc o3).drew := by
  refine ⟨heap_old (heap_old (heap_new W o1)), ?_, ?_, ((((Bel.refl W).alloc o1).alloc o2).alloc o3).drew⟩
  · have := heap_old (o := o3) (heap_new (W.alloc o1) o2)
    rwa [show (W.alloc o1).heap.size = W.heap.size + 1 by simp] at this
  · have := heap_new ((W.alloc o1).alloc o2) o3
    rwa [show ((W.alloc o1).alloc o2).heap.size = W.heap.size + 1 + 1 by simp] at this
set_option maxHeartbeats 1000000 in
theorem begin_any (n : Nat) (hn : n ≤ 32000) (I : List Int) (W : World) :
    Calls Try.prog 25 #[.int .i64 (n : Int)] W fun e W' => ∃ b gr gm, e = .returned (.pointer (some ⟨b, 0, none⟩)) ∧ IsR W W' b gr gm (.slice none 0 0) I (start n I) 0 0 := by
  have h32 := make_row 32 (by omega)
  rw [show ((32 : Nat) : Int) = 32 from rfl] at h32
  have hmn := make_row n hn
  generalize hC : ((List.replicate 32 (0 : Int)).map (Value.int .i64)).toArray = C at *
  generalize hD : ((List.replicate n (0 : Int)).map (Value.int .i64)).toArray = D at *
  have HC := hidm hC
  have HD := hidm hD
  clear hC hD
  go_enter Try.func25, Try.ntmps25
  go_wp2
  go_region
  all_goals
    go_wp2
    go_ret
    first
    | (obtain ⟨t1, t2, t3, t4⟩ := three W (.cells C 3) (.cells D 3) (.cells (refB W.heap.size (W.heap.size + 1) n 0 0 (.slice none 0 0) 0) 61)
       exact ⟨_, W.heap.size, W.heap.size + 1, rfl, begin_box I hn t3 (by omega) (by omega) (by omega) (by omega) (Hid.out HC).symm (Hid.out HD).symm t1 t2 t4⟩)
    | (obtain ⟨t1, t2, t3, t4⟩ := three W (.cells D 3) (.cells C 3) (.cells (refB (W.heap.size + 1) W.heap.size n 0 0 (.slice none 0 0) 0) 61)
       exact ⟨_, W.heap.size + 1, W.heap.size, rfl, begin_box I hn t3 (by omega) (by omega) (by omega) (by omega) (Hid.out HC).symm (Hid.out HD).symm t2 t1 t4⟩)
end Go.Proofs.Ytmgpfhmodjmcdaa
