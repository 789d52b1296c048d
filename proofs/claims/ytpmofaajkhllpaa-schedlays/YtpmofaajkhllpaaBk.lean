/-
  slices.Backward at a slice of instructions: what it tells.
-/
import Derived.Test.YtpmofaajkhllpaaAn
import Derived.Test.YtpmofaajkhllpaaKx
namespace Go.Proofs.Ytpmofaajkhllpaa
set_option maxRecDepth 20000
set_option linter.unusedVariables false
open Go.ChangeShapes Go.WideShapes Go.ChangeAt Go.RowKit Go.Shelf
attribute [local go_sem] Oper.semAt_some

/-- The places of a list, from the last one down to place k. -/
def desc (n k : Nat) : List (Fin n) := ((List.finRange n).drop k).reverse
theorem desc_end (n : Nat) : desc n n = [] := by
  unfold desc
  rw [List.drop_eq_nil_of_le (by simp)]
  rfl
theorem desc_step {n k : Nat} (h : k < n) : desc n k = desc n (k + 1) ++ [⟨k, h⟩] := by
  unfold desc
  rw [List.drop_eq_getElem_cons (by simpa using h), List.reverse_cons]
  simp
theorem desc_len (n k : Nat) : (desc n k).length = n - k := by simp [desc]
theorem desc_snoc {n k : Nat} {pre : List (Fin n)} {x : Fin n} (h : pre ++ [x] = desc n k) : k < n ∧ pre = desc n (k + 1) ∧ x.val = k := by
  have hl := congrArg List.length h
  rw [desc_len] at hl
  simp at hl
  have hk : k < n := by omega
  rw [desc_step hk] at h
  have h1 := List.append_inj' h rfl
  exact ⟨hk, h1.1, by have := h1.2; simp at this; rw [this]⟩

theorem back_any (v : Value) (ao : Option Addr) (n c : Nat) (hv : v = .slice ao n c) (W : World) :
    Calls Try.prog 46 #[v] W fun e W' => e = .returned (.func (.func 58) #[] #[.pointer (some ⟨W.heap.size, 0, none⟩)]) ∧ W' = W.alloc (.cells #[v] 22) := by
  subst hv
  have hmf : ∀ (fn : Fn) (first cap : Array Value) (w : World), (Instr.makeFunc fn first cap).run Try.prog w = .ok (.func fn first cap) w := fun _ _ _ _ => rfl
  go_enter Try.func46, Try.ntmps46
  go_wp2
  go_ret
  exact ⟨rfl, rfl⟩

section
variable {m : Nat} {ops : Array Oper} {rest : List Oper} {op : Oper} {a : Act} {w : World} {Q : Exit → Act → World → Prop}
theorem wpListIn_alloc_ask (hgd : op.guard = none) (ho : op.op = .alloc 68)
    (h : wpListIn Fence.wide m Try.prog ops Q rest (a.put op.dst (.pointer (some ⟨w.heap.size, 0, none⟩))) (w.alloc (askL []))) : wpListIn Fence.wide m Try.prog ops Q (op :: rest) a w :=
  wpListIn_plain hgd fun _ hK => by
    refine ⟨fun _ _ => trivial, ?_⟩
    rw [show Fence.wide.round = none from rfl, Oper.semAt_none]
    unfold execOp
    simp only [ho, alloc_ask w, Sem.run_bind, Sem.run_pure, Result.andThen_ok]
    exact hK _ _ h
end
/-- A block of cells is not turned by a loop's book-keeping. -/
theorem own_cells {B k : Nat} {c : Array Value} {e : TypeId} {f : Nat × Nat} {A A' : World} {row : Option Nat} (hg : A.grownBy A' row) (hr : ∀ r, row = some r → B ≤ r ∧ ∃ o : Obj, A.heap[r]? = some o ∧ o.isCells = false) (h : A.heap[k]? = some (.cells c e f)) : A'.heap[k]? = some (.cells c e f) :=
  (hg.block k (lt_of_heap h) (fun q => by
    obtain ⟨_, o, ho, hc⟩ := hr k q.symm
    rw [h] at ho
    cases ho
    cases hc)).trans h
theorem kept_from {S : Nat → Obj → Prop} {W W' : World} (B : Nat) (h : Kept S W W') (hs : ∀ k o, W.heap[k]? = some o → S k o → o.isCells = true) : KeepsFrom B W W' :=
  ⟨h.size, fun k o _ hk ho => h.block k o hk (fun s => by rw [hs k o hk s] at ho; cases ho)⟩

/-- The instructions of a slice, as the rounds of a loop keep them. -/
def HeldC (n₁ : Nat) (S : Nat → Prop) (W : World) (ao : Option Addr) (X : List Ins) : Prop :=
  0 < X.length → ∃ g o, ao = some ⟨g, o, none⟩ ∧ g < n₁ ∧ ¬ S g ∧ CodeAt W g o X
def encI (X : List Ins) (x : Fin X.length) : Array Value := #[.int .i64 ((x.val : Nat) : Int), (X.getD x.val Ins.zero).val]

set_option maxRecDepth 100000 in
set_option maxHeartbeats 2000000 in
theorem back1_in (F : Fence) (n : Nat) (h28 : F.fn 58) (hro : F.round = none) (hn : 1 ≤ n) (l B1 n₁ : Nat) (S : Nat → Prop) (ao : Option Addr) (cap : Nat) (X : List Ins) (hlen : X.length < 1000000000) (J Jx : List (Fin X.length) → World → Prop)
    (hY : ∀ pre x W, J pre W → pre.length < X.length → YieldAt F (n - 1) Try.prog l (encI X x) W fun e W' =>
      (e = .returned (.bool true) ∧ J (pre ++ [x]) W' ∧ KeepX n₁ S W W') ∨ (e = .returned (.bool false) ∧ Jx (pre ++ [x]) W'))
    (W : World) (hB : W.heap[B1]? = some (.cells #[.slice ao X.length cap] 22)) (hB1 : B1 < n₁) (hBS : ¬ S B1) (hL : HeldC n₁ S W ao X) (h0 : J [] W) :
    CallsIn F n Try.prog 58 #[.func (.yield l) #[] #[], .pointer (some ⟨B1, 0, none⟩)] W fun e W' => (∃ v, e = .returned v) ∧
      ((∃ ys, ys = desc X.length 0 ∧ J ys W') ∨ (∃ pre, (∃ k, pre = desc X.length k) ∧ Jx pre W')) := by
  have c1 := cell_of hB 0
  have H0 := hidm h0
  refine callsIn_of_wp Try.func58 rfl h28 ?_ hro
  simp only [Try.ntmps58, List.size_toArray, List.length_cons, List.length_nil, Nat.reduceAdd, Nat.reduceSub, Array.replicate_succ, Array.replicate_zero, List.push_toArray, List.append_toArray, List.nil_append, List.cons_append]
  gi_wp2
  gi_loopw [3] (fun i wr => ∃ k : Nat, k ≤ X.length ∧ i = .int .i64 ((k : Int) - 1) ∧ J (desc X.length k) wr ∧ KeepX n₁ S W wr) (fun i _ => (intOf i + 1).toNat)
  case atStart => exact ⟨X.length, Nat.le_refl _, rfl, by rw [desc_end]; exact H0.out, fun _ _ _ => rfl⟩
  case round =>
    obtain ⟨k, hk, rfl, hJs, hkx⟩ := hrel
    have cB : wr.cell? ⟨B1, 0, none⟩ = some (.slice ao X.length cap) := cell_of ((hkx B1 hB1 hBS).trans hB) 0
    by_cases hlt : 0 < k
    · obtain ⟨k, rfl⟩ : ∃ m, k = m + 1 := ⟨k - 1, by omega⟩
      obtain ⟨g, o, rfl, hg, hgx, hc⟩ := hL (by omega)
      obtain ⟨a0, a1, a2, a3, a4⟩ := hc k (by omega)
      rw [← World.cell?_of_block (w := W) (hkx g hg hgx)] at a0 a1 a2 a3 a4
      have HT := hidm (desc_step (n := X.length) (k := k) (by omega))
      obtain ⟨fn, tmps, assign, body, hy, hR⟩ := hY (desc X.length (k + 1)) ⟨k, by omega⟩ wr hJs (by rw [desc_len]; omega)
      unfold encI Ins.val at hy
      generalize X.getD k Ins.zero = x at a0 a1 a2 a3 a4 hy
      have e1 : ((k + 1 : Nat) : Int) - 1 = k := by omega
      rw [e1]
      clear hc hL c1 H0
      gi_wp2
      refine hR.mono ?_
      rintro e W3 (⟨rfl, hJ3, hk3⟩ | ⟨rfl, hJx3⟩)
      · gi_wp2
        go_roundw
        case rel => exact ⟨k, by omega, rfl, by rw [HT.out]; exact hJ3, keepX_t hkx hk3⟩
        case measure => simp only [intOf]; omega
      · gi_wp2
        refine bodyPost_ret (results_none rfl _ _ _) rfl ?_
        exact ⟨⟨_, rfl⟩, .inr ⟨_, ⟨k, HT.out.symm⟩, hJx3⟩⟩
    · obtain rfl : k = 0 := by omega
      gi_wp2
      go_end0
      exact ⟨⟨_, rfl⟩, .inl ⟨_, rfl, hJs⟩⟩

theorem back_stops (F : Fence) (n : Nat) (h28 : F.fn 58) (hro : F.round = none) (hn : 1 ≤ n) (B1 n₁ : Nat) (S : Nat → Prop) (ao : Option Addr) (cap : Nat) (X : List Ins) (hlen : X.length < 1000000000) (w : World)
    (hB : w.heap[B1]? = some (.cells #[.slice ao X.length cap] 22)) (hB1 : B1 < n₁) (hBS : ¬ S B1) (hn₁ : n₁ ≤ w.heap.size) (hL : HeldC n₁ S w ao X) :
    SeqStopsK F n Try.prog 58 #[.pointer (some ⟨B1, 0, none⟩)] (encI X) (KeepX n₁ S) (fun ys => ys = desc X.length 0) (fun pre => ∃ k, pre = desc X.length k) X.length w :=
  fun l J Jx W hW hJ hJx hY h0 =>
    back1_in F n h28 hro hn l B1 n₁ S ao cap X hlen J Jx hY W ((hW.block _ (lt_of_heap hB)).trans hB) hB1 hBS (fun hp => by
      obtain ⟨g, o, e, hg, hx, hc⟩ := hL hp
      refine ⟨g, o, e, hg, hx, fun j hj => ?_⟩
      have := hc j hj
      rw [← World.cell?_of_block (w := w) (hW.block g (by omega))] at this
      rw [← World.cell?_of_block (w := w) (hW.block g (by omega)), ← World.cell?_of_block (w := w) (hW.block g (by omega)), ← World.cell?_of_block (w := w) (hW.block g (by omega)), ← World.cell?_of_block (w := w) (hW.block g (by omega))] at this
      exact this) h0
end Go.Proofs.Ytpmofaajkhllpaa
