/-
  The reference's Equal of like results; the guard of the statements.
-/
import Derived.Test.YtmgpfhmodjmcdaaRn
namespace Go.Proofs.Ytmgpfhmodjmcdaa
set_option maxRecDepth 20000
set_option linter.unusedVariables false
open Go.ChangeShapes Go.WideShapes Go.ChangeAt Go.RowKit

set_option maxHeartbeats 2000000 in
theorem equal_true (t n : Int) (o1 o2 m1 m2 : Value) (O M : List Int) (W : World) (h1 : Ints .i64 W o1 O) (h2 : Ints .i64 W o2 O) (h3 : Ints .i64 W m1 M) (h4 : Ints .i64 W m2 M) (hO : O.length < 1000000000) (hM : M.length < 1000000000) :
    Calls Try.prog 15 #[.agg #[.int .i64 t, .int .i64 n, o1, m1], .agg #[.int .i64 t, .int .i64 n, o2, m2]] W fun e W' => e = .returned (.bool true) ∧ Bel W W' := by
  obtain ⟨ao, ca, rfl, hva⟩ := h1
  obtain ⟨bo, cb, rfl, hvb⟩ := h2
  obtain ⟨am, da, rfl, hma⟩ := h3
  obtain ⟨bm, db, rfl, hmb⟩ := h4
  go_enter Try.func15, Try.ntmps15
  go_wp2_with fail
  have e1 : (W.alloc (.cells #[.int .i64 t, .int .i64 n, .slice ao O.length ca, .slice am M.length da] 28)).heap.size = W.heap.size + 1 := by simp
  have hx1 := heap_old (o := .cells #[.int .i64 t, .int .i64 n, .slice bo O.length cb, .slice bm M.length db] 28) (heap_new W (.cells #[.int .i64 t, .int .i64 n, .slice ao O.length ca, .slice am M.length da] 28))
  have hx2 := heap_new (W.alloc (.cells #[.int .i64 t, .int .i64 n, .slice ao O.length ca, .slice am M.length da] 28)) (.cells #[.int .i64 t, .int .i64 n, .slice bo O.length cb, .slice bm M.length db] 28)
  rw [e1] at hx2
  have hB2 : Bel W ((W.alloc (.cells #[.int .i64 t, .int .i64 n, .slice ao O.length ca, .slice am M.length da] 28)).alloc (.cells #[.int .i64 t, .int .i64 n, .slice bo O.length cb, .slice bm M.length db] 28)) := ((Bel.refl W).alloc _).alloc _
  clear e1
  generalize (W.alloc (.cells #[.int .i64 t, .int .i64 n, .slice ao O.length ca, .slice am M.length da] 28)).alloc (.cells #[.int .i64 t, .int .i64 n, .slice bo O.length cb, .slice bm M.length db] 28) = W2 at *
  have p1 : W2.cell? ⟨W.heap.size, 2, none⟩ = some (.slice ao O.length ca) := cell_of hx1 2
  have p2 : W2.cell? ⟨W.heap.size + 1, 2, none⟩ = some (.slice bo O.length cb) := cell_of hx2 2
  have p3 : W2.cell? ⟨W.heap.size, 3, none⟩ = some (.slice am M.length da) := cell_of hx1 3
  have p4 : W2.cell? ⟨W.heap.size + 1, 3, none⟩ = some (.slice bm M.length db) := cell_of hx2 3
  have l1 := lt_of_heap hx1
  have l2 := lt_of_heap hx2
  clear hx1 hx2
  go_loopw [5] (fun i wr => ∃ k : Nat, k ≤ O.length ∧ i = .int .i64 k ∧ Bel W2 wr) (fun i _ => O.length - (intOf i).toNat)
  case atStart => exact ⟨0, Nat.zero_le _, rfl, Bel.refl _⟩
  case round =>
    obtain ⟨k, hk, rfl, hB⟩ := hrel
    rename World => wr
    have q1 := ((bcell hB).1 _ _ l1).trans p1
    have q2 := ((bcell hB).1 _ _ l2).trans p2
    by_cases hlt : k < O.length
    · obtain ⟨b, o, rfl, hb, hc⟩ := hva (by omega)
      obtain ⟨b', o', rfl, hb', hc'⟩ := hvb (by omega)
      have hcx := ((bcell (btrans hB2 hB)).1 b (o + k) hb).trans (hc k hlt)
      have hcy := ((bcell (btrans hB2 hB)).1 b' (o' + k) hb').trans (hc' k hlt)
      clear hc hc' hva hvb hma hmb p1 p2 p3 p4
      generalize O[k]?.getD 0 = z at hcx hcy
      go_wp2
      go_quiet (fail)
      go_wp2
      go_roundw
      case rel => exact ⟨k + 1, by omega, by simp, btrans hB (Bel.drewN _ _)⟩
      case measure => simp [intOf]; omega
    · have p5 := ((bcell hB).1 _ _ l1).trans p3
      have p6 := ((bcell hB).1 _ _ l2).trans p4
      have hB3 := btrans hB2 hB
      have m1 := Nat.lt_of_lt_of_le l1 hB.size
      have m2 := Nat.lt_of_lt_of_le l2 hB.size
      clear p1 p2 p3 p4 hva hvb hB2 hB l1 l2
      go_wp2_with fail
      go_loopw [6] (fun i wr2 => ∃ k : Nat, k ≤ M.length ∧ i = .int .i64 k ∧ Bel wr wr2) (fun i _ => M.length - (intOf i).toNat)
      case atStart => exact ⟨0, Nat.zero_le _, rfl, Bel.refl _⟩
      case round =>
        obtain ⟨k2, hk2, rfl, hB⟩ := hrel
        rename World => wr2
        have q3 := ((bcell hB).1 _ _ m1).trans p5
        have q4 := ((bcell hB).1 _ _ m2).trans p6
        clear q1 q2
        by_cases hlt2 : k2 < M.length
        · obtain ⟨b, o, rfl, hb, hc⟩ := hma (by omega)
          obtain ⟨b', o', rfl, hb', hc'⟩ := hmb (by omega)
          have hcx := ((bcell (btrans hB3 hB)).1 b (o + k2) hb).trans (hc k2 hlt2)
          have hcy := ((bcell (btrans hB3 hB)).1 b' (o' + k2) hb').trans (hc' k2 hlt2)
          clear hc hc' hma hmb p5 p6
          generalize M[k2]?.getD 0 = z at hcx hcy
          go_wp2
          go_quiet (fail)
          go_wp2
          go_roundw
          case rel => exact ⟨k2 + 1, by omega, by simp, btrans hB (Bel.drewN _ _)⟩
          case measure => simp [intOf]; omega
        · clear hma hmb p5 p6
          go_wp2
          go_ret
          exact ⟨rfl, btrans hB3 hB⟩
/-- The statements' guard. -/
def smallB (n : Nat) (mem : Int) (m : Nat) (fuel : Int) : Bool := decide (n ≤ 200 ∧ (mem ≤ 300 ∨ 32000 < mem) ∧ m ≤ 100 ∧ fuel ≤ 2000)
end Go.Proofs.Ytmgpfhmodjmcdaa
