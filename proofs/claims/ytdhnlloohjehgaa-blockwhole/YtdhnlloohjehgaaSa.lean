/-
  What a set's All tells: the contract of the function that it answers.
-/
import Derived.Test.YtdhnlloohjehgaaSi
namespace Go.Proofs.Ytdhnlloohjehgaa
set_option maxRecDepth 20000
set_option linter.unusedVariables false
open Go.ChangeShapes Go.WideShapes Go.ChangeAt Go.RowKit Go.Shelf
attribute [local go_sem] Oper.semAt_some

set_option maxHeartbeats 1000000 in
theorem sall_any (n₀ b : Nat) (v : Value) (mp : Option Nat) (L : List Int) (W : World) (h : IsS n₀ W b v mp L) :
    Calls Try.prog 36 #[.pointer (some ⟨b, 0, none⟩)] W fun e W' => e = .returned (.func (.func 42) #[] #[.pointer (some ⟨W.heap.size, 0, none⟩)]) ∧ W' = W.alloc (.cells #[v] 30) := by
  have c0 : W.cell? ⟨b, 0, none⟩ = some v := cell_of h.box 0
  have hb := lt_of_heap h.box
  have hmf : ∀ (fn : Fn) (first cap : Array Value) (w : World), (Instr.makeFunc fn first cap).run Try.prog w = .ok (.func fn first cap) w := fun _ _ _ _ => rfl
  obtain ⟨ao, cap, rfl⟩ := slice_of h.row
  go_enter Try.func36, Try.ntmps36
  go_wp2
  go_ret
  exact ⟨rfl, rfl⟩

/-- The numbers of a slice, as the rounds of a loop keep them. -/
def HeldX (n₁ : Nat) (X : Nat → Prop) (W : World) (ao : Option Addr) (L : List Int) : Prop :=
  0 < L.length → ∃ g o, ao = some ⟨g, o, none⟩ ∧ g < n₁ ∧ ¬ X g ∧ ∀ j, j < L.length → W.cell? ⟨g, o + j, none⟩ = some (.int .i64 (L[j]?.getD 0))

set_option maxRecDepth 100000 in
set_option maxHeartbeats 2000000 in
theorem sall1_in (F : Fence) (n : Nat) (h28 : F.fn 42) (hro : F.round = none) (hn : 1 ≤ n) (l B1 n₁ : Nat) (X : Nat → Prop) (ao : Option Addr) (cap : Nat) (L : List Int) (hlen : L.length < 1000000000) (J Jx : List Int → World → Prop)
    (hY : ∀ pre x W, J pre W → pre.length < L.length → YieldAt F (n - 1) Try.prog l #[.int .i64 x] W fun e W' =>
      (e = .returned (.bool true) ∧ J (pre ++ [x]) W' ∧ KeepX n₁ X W W') ∨ (e = .returned (.bool false) ∧ Jx (pre ++ [x]) W'))
    (W : World) (b1 : Boxed W B1 30 (.slice ao L.length cap)) (hL : HeldX n₁ X W ao L) (h0 : J [] W) :
    CallsIn F n Try.prog 42 #[.func (.yield l) #[] #[], .pointer (some ⟨B1, 0, none⟩)] W fun e W' => (∃ v, e = .returned v) ∧
      ((∃ ys, ys = L ∧ J ys W') ∨ (∃ pre, pre <+: L ∧ Jx pre W')) := by
  have c1 := b1.cell
  refine callsIn_of_wp Try.func42 rfl h28 ?_ hro
  simp only [Try.ntmps42, List.size_toArray, List.length_cons, List.length_nil, Nat.reduceAdd, Nat.reduceSub, Array.replicate_succ, Array.replicate_zero, List.push_toArray, List.append_toArray, List.nil_append, List.cons_append]
  gi_wp2
  gi_loopw [7] (fun i wr => ∃ k : Nat, k ≤ L.length ∧ i = .int .i64 k ∧ J (L.take k) wr ∧ KeepX n₁ X W wr) (fun i _ => L.length - (intOf i).toNat)
  case atStart => exact ⟨0, Nat.zero_le _, rfl, h0, fun _ _ _ => rfl⟩
  case round =>
    obtain ⟨k, hk, rfl, hJs, hkx⟩ := hrel
    by_cases hlt : k < L.length
    · obtain ⟨g, o, rfl, hg, hgx, hc⟩ := hL (by omega)
      have hcx : wr.cell? ⟨g, o + k, none⟩ = some (.int .i64 (L[k]?.getD 0)) := (World.cell?_of_block (hkx g hg hgx)).trans (hc k hlt)
      have htk : L.take (k + 1) = L.take k ++ [L[k]?.getD 0] := by
        rw [List.take_succ_eq_append_getElem hlt]
        simp [hlt]
      generalize L[k]?.getD 0 = z at hcx htk
      have HT : Hid (L.take (k + 1) = L.take k ++ [z]) := htk
      clear htk hc hL
      obtain ⟨fn, tmps, assign, body, hy, hR⟩ := hY (L.take k) z wr hJs (by rw [List.length_take]; omega)
      gi_wp2
      refine hR.mono ?_
      rintro e W3 (⟨rfl, hJ3, hk3⟩ | ⟨rfl, hJx3⟩)
      · gi_wp2
        go_roundw
        case rel => exact ⟨k + 1, by omega, by simp, by rw [HT.out]; exact hJ3, keepX_t hkx hk3⟩
        case measure => simp only [intOf]; omega
      · gi_wp2
        refine bodyPost_ret (results_none rfl _ _ _) rfl ?_
        exact ⟨⟨_, rfl⟩, .inr ⟨_, by rw [← HT.out]; exact List.take_prefix _ _, hJx3⟩⟩
    · gi_wp2
      go_end0
      exact ⟨⟨_, rfl⟩, .inl ⟨_, List.take_of_length_le (by omega), hJs⟩⟩

theorem sall_stops (F : Fence) (n : Nat) (h28 : F.fn 42) (hro : F.round = none) (hn : 1 ≤ n) (B1 n₁ : Nat) (X : Nat → Prop) (ao : Option Addr) (cap : Nat) (L : List Int) (hlen : L.length < 1000000000) (w : World)
    (b1 : Boxed w B1 30 (.slice ao L.length cap)) (hn₁ : n₁ ≤ w.heap.size) (hL : HeldX n₁ X w ao L) :
    SeqStopsK F n Try.prog 42 #[.pointer (some ⟨B1, 0, none⟩)] (fun x : Int => #[.int .i64 x]) (KeepX n₁ X) (fun ys => ys = L) (fun pre => pre <+: L) L.length w :=
  fun l J Jx W hW hJ hJx hY h0 =>
    sall1_in F n h28 hro hn l B1 n₁ X ao cap L hlen J Jx hY W ((hW.block _ b1.lt).trans b1) (fun hp => by
      obtain ⟨g, o, e, hg, hx, hc⟩ := hL hp
      exact ⟨g, o, e, hg, hx, fun j hj => (World.cell?_of_block (hW.block g (by omega))).trans (hc j hj)⟩) h0
end Go.Proofs.Ytdhnlloohjehgaa
