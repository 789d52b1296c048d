/-
  What a queue's All tells: the contract of the function that it answers.
-/
import Derived.Test.YtfgejepjiifmlaaQue
import Derived.RangeFuncNested
import Derived.RangeFuncBound
import Derived.RangeFuncCalls
import Derived.RangeFuncLeaves
import Derived.Shelf.Abstract
import Derived.Shelf.RegionOpen
import Derived.WalkKit
import Derived.OwnWalkIn
import Derived.TacticsInMore
import Derived.LoopNIn
import Derived.LoopIn
import Derived.RegionTactic
namespace Go.Proofs.Ytfgejepjiifmlaa
set_option linter.unusedVariables false
open Go.ChangeShapes Go.WideShapes Go.ChangeAt Go.RowKit Go.Shelf
attribute [local go_sem] Oper.semAt_some

/-- What a round keeps: all that lay below n₁, but what X names. -/
def KeepX (n₁ : Nat) (X : Nat → Prop) (W W' : World) : Prop := ∀ k, k < n₁ → ¬ X k → W'.heap[k]? = W.heap[k]?
theorem keepX_t {n₁ : Nat} {X : Nat → Prop} {A B C : World} (h : KeepX n₁ X A B) (k : KeepX n₁ X B C) : KeepX n₁ X A C := fun i hi hx => (k i hi hx).trans (h i hi hx)
theorem keepX_b {n₁ : Nat} {X : Nat → Prop} {w : World} (hn : n₁ ≤ w.heap.size) (W : World) (l : Nat) (o o' : Obj) (hl : w.heap.size ≤ l) (h : W.heap[l]? = some o) (_ : o.isCells = false) (_ : o.isWalk = false) : KeepX n₁ X W (W.putObj l o') :=
  fun k hk _ => World.putObj_heap_other (by omega)
theorem KeepX.links {n₁ : Nat} {X : Nat → Prop} {W W' : World} (h : KeepX n₁ X W W') {ks : List (Nat × Int)} (hl : Links W ks) (hk : ∀ p ∈ ks, p.1 < n₁ ∧ ¬ X p.1) : Links W' ks :=
  hl.kept fun p hp => h p.1 (hk p hp).1 (hk p hp).2

set_option maxHeartbeats 1000000 in
theorem all_any (n₀ b : Nat) (ks : List (Nat × Int)) (W : World) (h : IsQ n₀ W b ks) :
    Calls Try.prog 23 #[.pointer (some ⟨b, 0, none⟩)] W fun e W' => ∃ B1 B2, e = .returned (.func (.func 33) #[] #[.pointer (some ⟨B1, 0, none⟩), .pointer (some ⟨B2, 0, none⟩)]) ∧
      W.heap.size ≤ B1 ∧ W.heap.size ≤ B2 ∧ W'.heap.size = W.heap.size + 2 ∧ Boxed W' B1 23 (.pointer (hdq ks)) ∧ Boxed W' B2 23 (.pointer (lsq ks)) ∧ Bel W W' := by
  have c0 : W.cell? ⟨b, 0, none⟩ = some (.pointer (hdq ks)) := cell_of h.box 0
  have c1 : W.cell? ⟨b, 1, none⟩ = some (.pointer (lsq ks)) := cell_of h.box 1
  have hb := lt_of_heap h.box
  have hmf : ∀ (fn : Fn) (first cap : Array Value) (w : World), (Instr.makeFunc fn first cap).run Try.prog w = .ok (.func fn first cap) w := fun _ _ _ _ => rfl
  go_enter Try.func23, Try.ntmps23
  go_wp2
  go_region
  all_goals go_wp2
  · go_ret
    refine ⟨W.heap.size, W.heap.size + 1, rfl, Nat.le_refl _, Nat.le_succ _, by simp, ?_, ?_, ?_⟩
    · exact (Boxed.new W _ _).alloc _
    · have := Boxed.new (W.alloc (Obj.cells #[Value.pointer (hdq ks)] 23)) 23 (.pointer (lsq ks))
      rw [World.size_alloc] at this
      exact this
    · exact (((Bel.refl W).alloc _).alloc _).drew
  · go_ret
    refine ⟨W.heap.size + 1, W.heap.size, rfl, Nat.le_succ _, Nat.le_refl _, by simp, ?_, ?_, ?_⟩
    · have := Boxed.new (W.alloc (Obj.cells #[Value.pointer (lsq ks)] 23)) 23 (.pointer (hdq ks))
      rw [World.size_alloc] at this
      exact this
    · exact (Boxed.new W _ _).alloc _
    · exact (((Bel.refl W).alloc _).alloc _).drew

/-- The places, from i on, and the values. -/
def toldFrom : Nat → List (Nat × Int) → List (Nat × Int)
  | _, [] => []
  | i, (_, x) :: r => (i, x) :: toldFrom (i + 1) r
theorem toldFrom_length (i : Nat) (ks : List (Nat × Int)) : (toldFrom i ks).length = ks.length := by
  induction ks generalizing i with
  | nil => rfl
  | cons y r ih => simp [toldFrom, ih]
theorem drew_grown (w : World) : w.grownBy w.drew none := ⟨rfl, rfl, rfl, Nat.le_refl _, fun _ _ _ => rfl⟩
theorem lsq_cons (y z : Nat × Int) (r : List (Nat × Int)) : lsq (y :: z :: r) = lsq (z :: r) := rfl

set_option maxRecDepth 100000 in
set_option maxHeartbeats 2000000 in
theorem qall1_in (F : Fence) (n : Nat) (h33 : F.fn 33) (hro : F.round = none) (hn : 1 ≤ n) (l B1 B2 n₁ : Nat) (X : Nat → Prop) (ks : List (Nat × Int)) (hlen : ks.length < 1000000000) (J Jx : List (Nat × Int) → World → Prop)
    (hJd : ∀ pre W, J pre W → J pre W.drew)
    (hY : ∀ pre x W, J pre W → pre.length < ks.length → YieldAt F (n - 1) Try.prog l #[.int .i64 x.1, .int .i64 x.2] W fun e W' =>
      (e = .returned (.bool true) ∧ J (pre ++ [x]) W' ∧ KeepX n₁ X W W') ∨ (e = .returned (.bool false) ∧ Jx (pre ++ [x]) W'))
    (W : World) (b1 : Boxed W B1 23 (.pointer (hdq ks))) (b2 : Boxed W B2 23 (.pointer (lsq ks))) (hB2 : B2 < n₁ ∧ ¬ X B2)
    (hL : Links W ks) (hnd : (ks.map Prod.fst).Nodup) (hk : ∀ p ∈ ks, p.1 < n₁ ∧ ¬ X p.1) (h0 : J [] W) :
    CallsIn F n Try.prog 33 #[.func (.yield l) #[] #[], .pointer (some ⟨B1, 0, none⟩), .pointer (some ⟨B2, 0, none⟩)] W fun e W' => (∃ v, e = .returned v) ∧
      ((∃ ys, ys = toldFrom 0 ks ∧ J ys W') ∨ (∃ pre, pre <+: toldFrom 0 ks ∧ Jx pre W')) := by
  obtain ⟨i0, hi, hz0, hz1, hz2⟩ := info_parts linkInfo
  have c1 := b1.cell
  refine callsIn_of_wp Try.func33 rfl h33 ?_ hro
  simp only [Try.ntmps33, List.size_toArray, List.length_cons, List.length_nil, Nat.reduceAdd, Nat.reduceSub, Array.replicate_succ, Array.replicate_zero, List.push_toArray, List.append_toArray, List.nil_append, List.cons_append]
  gi_wp2
  gi_region
  all_goals gi_wp2
  all_goals
    gi_loopw [4, 5] (fun i at_ wr => ∃ (pre rest : List (Nat × Int)), i = .int .i64 pre.length ∧ at_ = .pointer (hdq rest) ∧ toldFrom 0 ks = pre ++ toldFrom pre.length rest ∧ pre.length + rest.length = ks.length ∧
        Links wr rest ∧ (rest.map Prod.fst).Nodup ∧ (∀ p ∈ rest, p.1 < n₁ ∧ ¬ X p.1) ∧ (rest ≠ [] → Boxed wr B2 23 (.pointer (lsq rest))) ∧ J pre wr)
      (fun i _ _ => ks.length - (intOf i).toNat)
    case atStart => exact ⟨[], ks, rfl, rfl, rfl, by simp, hL.kept (fun _ _ => rfl), hnd, hk, fun _ => b2, hJd _ _ h0⟩
    case round =>
      obtain ⟨pre, rest, rfl, rfl, ht, hs, hl, hd, hx, hb, hJs⟩ := hrel
      cases rest with
      | nil =>
        gi_wp2
        go_end0
        exact ⟨⟨_, rfl⟩, .inl ⟨pre, by simpa [toldFrom] using ht.symm, hJs⟩⟩
      | cons y r =>
        obtain ⟨k, x⟩ := y
        have hbb := hb (by simp)
        have d0 : wr.cell? ⟨k, 0, none⟩ = some (.int .i64 x) := cell_of hl.1 0
        have hh : hdq ((k, x) :: r) = some ⟨k, 0, none⟩ := rfl
        have hxk := hx (k, x) (by simp)
        obtain ⟨fn, tmps, assign, body, hy, hR⟩ := hY pre (pre.length, x) wr hJs (by simp at hs; omega)
        dsimp only at hy
        gi_wp2
        refine hR.mono ?_
        rintro e W3 (⟨rfl, hJ3, hk3⟩ | ⟨rfl, hJx3⟩)
        · have hl3 : Links W3 ((k, x) :: r) := hk3.links hl hx
          have bb3 : Boxed W3 B2 23 (.pointer (lsq ((k, x) :: r))) := (hk3 B2 hB2.1 hB2.2).trans hbb
          have c3 := bb3.cell
          have d1 : W3.cell? ⟨k, 1, none⟩ = some (.pointer (hdq r)) := cell_of hl3.1 1
          cases r with
          | nil =>
            have hq : lsq [(k, x)] = some ⟨k, 0, none⟩ := rfl
            have he := run_eql_ptr_same (P := Try.prog) W3 (tp := 23) (te := 59) ⟨k, 0, none⟩ Try.underlying23 hi
            gi_wp2
            refine bodyPost_ret (results_none rfl _ _ _) rfl ?_
            exact ⟨⟨_, rfl⟩, .inl ⟨pre ++ [(pre.length, x)], ht.symm, hJ3⟩⟩
          | cons z t =>
            obtain ⟨m, hm, hin⟩ := lsq_mem z t
            rw [List.map_cons, List.nodup_cons] at hd
            have hkm : k ≠ m := by
              intro e
              subst e
              exact hd.1 hin
            obtain ⟨pm, hpm, rfl⟩ := List.mem_map.1 hin
            obtain ⟨qm, hqm⟩ := hl3.2.at pm hpm
            have hq : lsq ((k, x) :: z :: t) = some ⟨pm.1, 0, none⟩ := hm
            have he := run_eql_ptr_other (P := Try.prog) W3 (tp := 23) (te := 59) (a := ⟨k, 0, none⟩) (b := ⟨pm.1, 0, none⟩) Try.underlying23 hi (by omega) (fun e => hkm (congrArg Addr.block e)) hl3.1 hqm
            have hwr : IntKind.i64.wrap ((pre.length : Int) + 1) = pre.length + 1 := by rw [IntKind.wrap_i64]; simp at hs; omega
            gi_wp2
            gi_region
            all_goals gi_wp2
            all_goals
              go_roundw
              case rel => exact ⟨pre ++ [(pre.length, x)], z :: t, by simp, rfl, by rw [ht]; simp [toldFrom], by simp at hs ⊢; omega, hl3.2.kept (fun _ _ => rfl), hd.2, fun p hp => hx p (List.mem_cons_of_mem _ hp), fun _ => bb3, hJd _ _ hJ3⟩
              case measure => simp only [intOf, List.length_cons] at hs ⊢; omega
        · gi_wp2
          refine bodyPost_ret (results_none rfl _ _ _) rfl ?_
          exact ⟨⟨_, rfl⟩, .inr ⟨pre ++ [(pre.length, x)], ⟨toldFrom (pre.length + 1) r, by rw [ht]; simp [toldFrom]⟩, hJx3⟩⟩
end Go.Proofs.Ytfgejepjiifmlaa
