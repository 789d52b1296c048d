/-
  What one instruction does: the machine's result, do.
-/
import Derived.Test.YtmgpfhmodjmcdaaMc3
import Derived.Test.YtmgpfhmodjmcdaaLater
namespace Go.Proofs.Ytmgpfhmodjmcdaa
set_option maxRecDepth 20000
set_option linter.unusedVariables false
open Go.ChangeShapes Go.WideShapes Go.ChangeAt Go.RowKit

/-- An instruction's box. -/
def insB (o a b c i : Int) : Obj := .cells #[.int .i64 o, .int .i64 a, .int .i64 b, .int .i64 c, .int .i64 i] 34
theorem insB_cells {W : World} {k : Nat} {o a b c i : Int} (h : W.heap[k]? = some (insB o a b c i)) : W.cell? ⟨k, 0, none⟩ = some (.int .i64 o) ∧ W.cell? ⟨k, 1, none⟩ = some (.int .i64 a) ∧ W.cell? ⟨k, 2, none⟩ = some (.int .i64 b) ∧ W.cell? ⟨k, 3, none⟩ = some (.int .i64 c) ∧ W.cell? ⟨k, 4, none⟩ = some (.int .i64 i) :=
  ⟨cell_of h 0, cell_of h 1, cell_of h 2, cell_of h 3, cell_of h 4⟩
theorem insB_kept {n₀ : Nat} {W W' : World} {k : Nat} {o a b c i : Int} (hk : Kept (Mut n₀) W W') (h : W.heap[k]? = some (insB o a b c i)) : W'.heap[k]? = some (insB o a b c i) := kept_box hk h (by decide) (by decide)
theorem boxI (w : World) (o a b c i : Int) :
    (∀ u : Later (w.alloc (insB o a b c i)), u.at_.cell? ⟨w.heap.size, 0, none⟩ = some (.int .i64 o)) ∧ (∀ u : Later (w.alloc (insB o a b c i)), u.at_.cell? ⟨w.heap.size, 1, none⟩ = some (.int .i64 a)) ∧ (∀ u : Later (w.alloc (insB o a b c i)), u.at_.cell? ⟨w.heap.size, 2, none⟩ = some (.int .i64 b)) ∧
    (∀ u : Later (w.alloc (insB o a b c i)), u.at_.cell? ⟨w.heap.size, 3, none⟩ = some (.int .i64 c)) ∧ (∀ u : Later (w.alloc (insB o a b c i)), u.at_.cell? ⟨w.heap.size, 4, none⟩ = some (.int .i64 i)) := box5 w o a b c i 34
theorem nat_of {z : Int} (h : 0 ≤ z) : ∃ k : Nat, z = k := ⟨z.toNat, by omega⟩
theorem reg_nat (R : List Int) (k : Nat) : reg R (k : Int) = R[k]?.getD 0 := by unfold reg; rw [Int.toNat_natCast]

set_option maxRecDepth 20000 in
set_option maxHeartbeats 2000000 in
theorem result_any {A W : World} {b bm g : Nat} {cv : Value} {X : List Ins} {s : St} (h : IsMc A W b bm g cv X s) (x : Ins) (ho : 1 ≤ x.o ∧ x.o ≤ 11) (ha : 0 ≤ x.a ∧ x.a ≤ 31) (hb : 0 ≤ x.b ∧ x.b ≤ 31) (hc : 0 ≤ x.c ∧ x.c ≤ 31) :
    Calls Try.prog 36 #[.pointer (some ⟨b, 0, none⟩), .agg #[.int .i64 x.o, .int .i64 x.a, .int .i64 x.b, .int .i64 x.c, .int .i64 x.i]] W fun e W' => e = .returned (.int .i64 (resM x s).1) ∧ IsMc A W' b bm g cv X (resM x s).2 ∧ Kept (Mut A.heap.size) W W' := by
  obtain ⟨o, a, kb, kc, i⟩ := x
  dsimp only at ho ha hb hc ⊢
  obtain ⟨kb, rfl⟩ := nat_of hb.1
  obtain ⟨kc, rfl⟩ := nat_of hc.1
  unfold resM
  dsimp only
  have wb := reg_wd h.ok kb
  have wc := reg_wd h.ok kc
  have hB : Bel W (W.alloc (insB o a kb kc i)) := (Bel.refl W).alloc _
  have h1 := h.stay hB
  have r1 := h1.regAt kb (by omega)
  have r2 := h1.regAt kc (by omega)
  have lb : b < (W.alloc (insB o a kb kc i)).heap.size := by
    obtain ⟨_, _, q⟩ := h1
    exact lt_of_heap q.box
  have p1 := later_cell r1 lb
  have p2 := later_cell r2 lb
  have hb2 : (kb : Int) < 32 := by omega
  have hc2 : (kc : Int) < 32 := by omega
  rw [reg_nat] at wb wc ⊢
  rw [reg_nat]
  have hbx := heap_new W (insB o a kb kc i)
  obtain ⟨c0, c1, c2, c3, c4⟩ := boxI W o a kb kc i
  have hS := fun (u : Later (W.alloc (insB o a kb kc i))) v (hv : Wd v) => set_any (h1.stay u.is_) a v ha hv
  have HS := hidm hS
  clear r1 r2 hS
  generalize s.regs[kb]?.getD 0 = xb at p1 wb ⊢
  generalize s.regs[kc]?.getD 0 = xc at p2 wc ⊢
  have hv := rec_wd (o := o) (i := i) wb wc
  have hK : ∀ u : Later (W.alloc (insB o a kb kc i)), Kept (Mut A.heap.size) W u.at_ := fun u => (Kept.alloc _ _ _).trans (Kept.of_bel u.is_)
  have HB := hidm hB
  clear hB hbx
  by_cases ht : recT o xc = 0
  · rw [if_pos ht]
    rw [ht]
    have hr := fun w => reckon_any o a kb kc i xb xc w ho wb wc
    rw [ht] at hr
    have HR := hidm hr
    clear hr ht
    go_enter Try.func36, Try.ntmps36
    go_wp2_with fail
    change Code.wp _ _ _ _ (W.alloc (insB o a kb kc i))
    generalize W.alloc (insB o a kb kc i) = W1 at *
    haveI := Later.ne W1
    obtain ⟨u1, e1⟩ := later_start W1
    rw [← e1]
    clear e1
    refine wp_region_later (by kernel_rfl) (by kernel_rfl) ?_
    repeat (go_big_quiet_step (first | (go_at_call 30; exact later_of (Hid.out HR _))))
    refine wpQuiet_nil ?_
    rintro _ ⟨u2, rfl⟩
    go_wp2_with (go_at_call 50; refine (Hid.out HS u2 _ hv).mono ?_; rintro e w' ⟨rfl, q1, q2⟩)
    go_ret
    exact ⟨rfl, q1, (hK u2).trans q2⟩
  · rw [if_neg ht]
    have ht' : (recT o xc == 0) = false := by simpa using ht
    have hr := fun w => reckon_any o a kb kc i xb xc w ho wb wc
    have HR := hidm hr
    generalize recT o xc = t at *
    clear hr ht
    go_enter Try.func36, Try.ntmps36
    go_wp2_with fail
    change Code.wp _ _ _ _ (W.alloc (insB o a kb kc i))
    generalize W.alloc (insB o a kb kc i) = W1 at *
    haveI := Later.ne W1
    obtain ⟨u1, e1⟩ := later_start W1
    rw [← e1]
    clear e1
    refine wp_region_later (by kernel_rfl) (by kernel_rfl) ?_
    repeat (go_big_quiet_step (first | (go_at_call 30; exact later_of (Hid.out HR _))))
    refine wpQuiet_nil ?_
    rintro _ ⟨u2, rfl⟩
    go_wp2
    go_ret
    exact ⟨rfl, h1.stay u2.is_, hK u2⟩
end Go.Proofs.Ytmgpfhmodjmcdaa
