/-
  The contract of Far.
-/
import Derived.Test.YtpmofaajkhllpaaAm
namespace Go.Proofs.Ytpmofaajkhllpaa
set_option maxRecDepth 20000
set_option linter.unusedVariables false
open Go.ChangeShapes Go.WideShapes Go.ChangeAt Go.RowKit

theorem heap_newN {w : World} {o : Obj} {k : Nat} (hk : k = w.heap.size) : (w.alloc o).heap[k]? = some o := by subst hk; exact heap_new w o
theorem Bel.kept {a b c : World} {S : Nat → Obj → Prop} (h : Bel a b) (k : Kept S b c) (hs : ∀ i o, S i o → a.heap.size ≤ i) : Bel a c :=
  Below.trans h (k.below h.size (fun i o _ s => hs i o s))

set_option maxHeartbeats 400000 in
theorem far_any (x y : Ins) (W : World) :
    Calls Try.prog 36 #[x.val, y.val] W fun e W' => e = .returned (.int .i64 (farI x y)) ∧ Bel W W' := by
  have HF := hidm (far_of x y)
  have tadd : ∀ (ww : World) (b : Nat), ww.heap[b]? = some (askL []) → Calls Try.prog 48 #[.pointer (some ⟨b, 0, none⟩), y.val, .int .i64 0] ww fun e w' => e = .returned (.tuple #[]) ∧ w'.heap[b]? = some (askL [(y, 0)]) ∧ Kept (fun k _ => k = b) ww w' := fun ww b h => add_any y 0 b [] ww (by omega) (by omega) h
  have tof : ∀ (ww : World) (b : Nat), ww.heap[b]? = some (askL [(y, 0)]) → Calls Try.prog 47 #[.pointer (some ⟨b, 0, none⟩), x.val] ww fun e w' => e = .returned (.int .i64 (ofM x [(y, 0)])) ∧ Bel ww w' := fun ww b h => of_any x b _ ww (by intro p hp; simp at hp; subst hp; simp) h
  unfold Ins.val at tadd tof ⊢
  go_enter Try.func36, Try.ntmps36
  have hx0 : ((((W.alloc (Obj.cells #[.int .i64 x.o, .int .i64 x.a, .int .i64 x.b, .int .i64 x.c, .int .i64 x.i] 30)).alloc (Obj.cells #[.int .i64 y.o, .int .i64 y.a, .int .i64 y.b, .int .i64 y.c, .int .i64 y.i] 30))).alloc (askL [])).heap[W.heap.size]? = some (Obj.cells #[.int .i64 x.o, .int .i64 x.a, .int .i64 x.b, .int .i64 x.c, .int .i64 x.i] 30) := heap_old (heap_old (heap_new _ _))
  have B0 := (((Bel.refl W).alloc (Obj.cells #[.int .i64 x.o, .int .i64 x.a, .int .i64 x.b, .int .i64 x.c, .int .i64 x.i] 30)).alloc (Obj.cells #[.int .i64 y.o, .int .i64 y.a, .int .i64 y.b, .int .i64 y.c, .int .i64 y.i] 30)).alloc (askL [])
  go_wp2_with (first
    | (refine wpList_alloc_ask (by rfl) (by rfl) ?_)
    | (go_at_call 47; refine (tof _ _ hb1).mono ?_; rintro e w2 ⟨rfl, g2⟩)
    | (go_at_call 48; refine (tadd _ _ (heap_newN (by simp))).mono ?_; rintro e w1 ⟨rfl, hb1, k1⟩; obtain ⟨p0, p1, p2, p3, p4⟩ := box_cells (k1.block _ _ hx0 (by omega))))
  go_ret
  exact ⟨ret_intA HF.out, btrans (B0.kept k1 (fun i o s => by omega)) g2⟩
end Go.Proofs.Ytpmofaajkhllpaa
