/-
  The contract of Pick.
-/
import Derived.Test.YtpmofaajkhllpaaMk9
import Derived.Test.YtpmofaajkhllpaaSl6
import Derived.Test.YtpmofaajkhllpaaAl
namespace Go.Proofs.Ytpmofaajkhllpaa
set_option maxRecDepth 20000
set_option linter.unusedVariables false
open Go.ChangeShapes Go.WideShapes Go.ChangeAt Go.RowKit

theorem flatC_set (L : List Ins) : ∀ (k : Nat) (p : Ins), flatC (L.set k p) = (((((flatC L).set (k * 5) (.int .i64 p.o)).set (k * 5 + 1) (.int .i64 p.a)).set (k * 5 + 2) (.int .i64 p.b)).set (k * 5 + 3) (.int .i64 p.c)).set (k * 5 + 4) (.int .i64 p.i) := by
  induction L with
  | nil => intro k p; simp [flatC]
  | cons x r ih =>
    intro k p
    cases k with
    | zero => rfl
    | succ k =>
      have := ih k p
      rw [List.set_cons_succ]
      show .int .i64 x.o :: .int .i64 x.a :: .int .i64 x.b :: .int .i64 x.c :: .int .i64 x.i :: flatC (r.set k p) = _
      rw [this, show (k + 1) * 5 = k * 5 + 1 + 1 + 1 + 1 + 1 by omega]
      rfl
def codeB (L : List Ins) : Obj := .cells (flatC L).toArray 30
theorem nops_flat (n : Nat) : nopsB n = codeB (List.replicate n Ins.zero) := by
  unfold nopsB codeB
  congr 1
  apply Array.ext_getElem?
  intro i
  by_cases h : i < n * 5
  · rw [made_at n i h]
    have e : i = i / 5 * 5 + i % 5 := by omega
    have h2 := flatC_at (List.replicate n Ins.zero) (i / 5) (i % 5) (by omega) (by rw [List.length_replicate]; omega)
    rw [← e, nops_get] at h2
    rw [List.getElem?_toArray, h2]
    have hm : i % 5 = 0 ∨ i % 5 = 1 ∨ i % 5 = 2 ∨ i % 5 = 3 ∨ i % 5 = 4 := by omega
    rcases hm with e | e | e | e | e <;> rw [e] <;> rfl
  · rw [Array.getElem?_eq_none (by unfold madeCells; simp; omega), List.getElem?_toArray, List.getElem?_eq_none (by rw [flatC_len, List.length_replicate]; omega)]
theorem codeB_at {W : World} {g : Nat} {L : List Ins} (h : W.heap[g]? = some (codeB L)) (j : Nat) (hj : j < L.length) :
    W.cell? ⟨g, j * 5, none⟩ = some (.int .i64 (L.getD j Ins.zero).o) ∧ W.cell? ⟨g, j * 5 + 1, none⟩ = some (.int .i64 (L.getD j Ins.zero).a) ∧ W.cell? ⟨g, j * 5 + 2, none⟩ = some (.int .i64 (L.getD j Ins.zero).b) ∧ W.cell? ⟨g, j * 5 + 3, none⟩ = some (.int .i64 (L.getD j Ins.zero).c) ∧ W.cell? ⟨g, j * 5 + 4, none⟩ = some (.int .i64 (L.getD j Ins.zero).i) := by
  have hc := fun i hi => (cell_of h (j * 5 + i)).trans ((by rw [List.getElem?_toArray]; exact flatC_at L j i hi hj) : (flatC L).toArray[j * 5 + i]? = (cells5 (L.getD j Ins.zero))[i]?)
  exact ⟨hc 0 (by omega), hc 1 (by omega), hc 2 (by omega), hc 3 (by omega), hc 4 (by omega)⟩
theorem codeB_set {W : World} {g : Nat} {L : List Ins} (h : W.heap[g]? = some (codeB L)) (k : Nat) (p : Ins) :
    (((((W.setCell ⟨g, k * 5, none⟩ (.int .i64 p.o)).setCell ⟨g, k * 5 + 1, none⟩ (.int .i64 p.a)).setCell ⟨g, k * 5 + 2, none⟩ (.int .i64 p.b)).setCell ⟨g, k * 5 + 3, none⟩ (.int .i64 p.c)).setCell ⟨g, k * 5 + 4, none⟩ (.int .i64 p.i)).heap[g]? = some (codeB (L.set k p)) := by
  refine (heap_set_same (heap_set_same (heap_set_same (heap_set_same (heap_set_same h))))).trans ?_
  unfold codeB
  rw [flatC_set]
  simp
theorem code_of_B {W : World} {g : Nat} {L : List Ins} (h : W.heap[g]? = some (codeB L)) (n c : Nat) (hn : n = L.length) : Code W (.slice (some ⟨g, 0, none⟩) n c) L := by
  subst hn
  refine ⟨some ⟨g, 0, none⟩, c, rfl, fun _ => ⟨g, 0, rfl, lt_of_heap h, fun j hj => ?_⟩⟩
  have := codeB_at h j hj
  rw [Nat.zero_add]
  exact this
/-- What is picked. -/
def pickI (X : List Ins) (n : Int) : Ins := if 0 ≤ n ∧ n < X.length then X.getD n.toNat Ins.zero else Ins.zero
def pickK (X : List Ins) (Z : List Int) (k : Nat) : List Ins := (Z.take k).map (pickI X) ++ List.replicate (Z.length - k) Ins.zero
theorem pickK_zero (X : List Ins) (Z : List Int) : pickK X Z 0 = List.replicate Z.length Ins.zero := by simp [pickK]
theorem pickK_end (X : List Ins) (Z : List Int) : pickK X Z Z.length = Z.map (pickI X) := by simp [pickK]
theorem pickK_len (X : List Ins) (Z : List Int) (k : Nat) (hk : k ≤ Z.length) : (pickK X Z k).length = Z.length := by simp [pickK]; omega
theorem pickK_step (X : List Ins) (Z : List Int) (k : Nat) (hk : k < Z.length) : pickK X Z (k + 1) = (pickK X Z k).set k (pickI X (Z.getD k 0)) := by
  unfold pickK
  have e : Z.take (k + 1) = Z.take k ++ [Z.getD k 0] := by rw [List.take_succ_eq_append_getElem hk]; simp [List.getD, hk]
  have hl : ((Z.take k).map (pickI X)).length = k := by simp; omega
  rw [e, List.map_append, show Z.length - k = (Z.length - (k + 1)) + 1 by omega, List.replicate_succ, List.set_append_right _ _ (by rw [hl]; exact Nat.le_refl _), hl, Nat.sub_self, List.set_cons_zero, List.append_assoc]
  rfl
theorem pickK_skip (X : List Ins) (Z : List Int) (k : Nat) (hk : k < Z.length) (h : ¬ (0 ≤ Z.getD k 0 ∧ Z.getD k 0 < X.length)) : pickK X Z (k + 1) = pickK X Z k := by
  unfold pickK
  have e : Z.take (k + 1) = Z.take k ++ [Z.getD k 0] := by rw [List.take_succ_eq_append_getElem hk]; simp [List.getD, hk]
  have e2 : pickI X (Z.getD k 0) = Ins.zero := by unfold pickI; rw [if_neg h]
  rw [e, List.map_append, show Z.length - k = (Z.length - (k + 1)) + 1 by omega, List.replicate_succ, List.append_assoc]
  simp [← e2]

set_option maxHeartbeats 4000000 in
theorem pick_any (X : List Ins) (Z : List Int) (v vo : Value) (w : World) (hX : X.length ≤ 10000) (hZ : Z.length ≤ 10000) (hv : Code w v X) (ho : Ints .i64 w vo Z) :
    Calls Try.prog 14 #[v, vo] w fun e W' => ∃ g c, e = .returned (.slice (some ⟨g, 0, none⟩) Z.length c) ∧ w.heap.size ≤ g ∧ W'.heap[g]? = some (codeB (Z.map (pickI X))) ∧ Bel w W' := by
  have HV := hidm hv
  have HO := hidm ho
  obtain ⟨ao, cap, rfl, _⟩ := hv
  obtain ⟨ao2, cap2, rfl, _⟩ := ho
  have hmk : ∀ W : World, (Instr.makeSlice 22 (.int .i64 Z.length) (.int .i64 Z.length)).run Try.prog W = .ok (.slice (some ⟨W.heap.size, 0, none⟩) Z.length Z.length) (W.alloc (codeB (pickK X Z 0))) := fun W => by rw [pickK_zero, ← nops_flat]; exact make_nops Z.length (by omega) _ rfl W
  have r0 : (w.alloc (codeB (pickK X Z 0))).heap[w.heap.size]? = some (codeB (pickK X Z 0)) := heap_new _ _
  have B0 := (Bel.refl w).alloc (codeB (pickK X Z 0))
  go_enter Try.func14, Try.ntmps14
  go_wp2
  generalize w.alloc (codeB (pickK X Z 0)) = w0 at r0 B0 ⊢
  clear hmk
  go_loopw [13] (fun i wr => ∃ k : Nat, k ≤ Z.length ∧ i = .int .i64 k ∧ wr.heap[w.heap.size]? = some (codeB (pickK X Z k)) ∧ Bel w wr) (fun i _ => Z.length - (intOf i).toNat)
  case atStart => exact ⟨0, Nat.zero_le _, rfl, r0, B0⟩
  case round =>
    obtain ⟨k, hk, rfl, hr, hB⟩ := hrel
    rename World => wr
    clear r0 B0 w0
    by_cases hlt : k < Z.length
    · obtain ⟨_, _, e1, hco⟩ := HO.out
      cases e1
      obtain ⟨bo, oo, rfl, hbo, hcz⟩ := hco (by omega)
      have c0 := ((bcell hB).1 bo (oo + k) hbo).trans (hcz k hlt)
      rw [show Z[k]?.getD 0 = Z.getD k 0 from rfl] at c0
      have hst := pickK_step X Z k hlt
      have hsk := pickK_skip X Z k hlt
      have hln := pickK_len X Z k hk
      obtain ⟨g0, g1, g2, g3, g4⟩ := codeB_at hr k (by omega)
      have fz := fun o => frozen_of hr o
      have hwr := lt_of_heap hr
      have HR := hidm hr
      have hkl : (k : Int) < Z.length := by omega
      clear hcz hco hr
      generalize Z.getD k 0 = z at c0 hst hsk
      generalize (pickK X Z k).getD k Ins.zero = old at g0 g1 g2 g3 g4
      by_cases hz : 0 ≤ z ∧ z < X.length
      · obtain ⟨j, rfl⟩ : ∃ j : Nat, z = j := ⟨z.toNat, by omega⟩
        obtain ⟨_, _, e2, hcd⟩ := HV.out
        cases e2
        obtain ⟨cb, co, rfl, hcb, hca⟩ := hcd (by omega)
        obtain ⟨a0, a1, a2, a3, a4⟩ := (hca.stay hcb hB) j (by omega)
        have e3 : pickI X (j : Int) = X.getD j Ins.zero := by unfold pickI; rw [if_pos hz, Int.toNat_natCast]
        rw [e3] at hst
        generalize X.getD j Ins.zero = x at a0 a1 a2 a3 a4 hst
        have HST := hidm hst
        have f0 := fz (k * 5)
        have f1 := fz (k * 5 + 1)
        have f2 := fz (k * 5 + 2)
        have f3 := fz (k * 5 + 3)
        have f4 := fz (k * 5 + 4)
        have hz1 := hz.1
        have hz2 := hz.2
        have hcbw : cb < wr.heap.size := by have := hB.size; omega
        clear hst hsk hca hcd fz hz
        go_wp2
        go_roundw
        case rel => exact ⟨k + 1, by omega, by go_num, by rw [HST.out]; exact codeB_set HR.out k x, ((((hB.setCell (p := ⟨w.heap.size, k * 5, none⟩) (Nat.le_refl _) _).setCell (p := ⟨w.heap.size, k * 5 + 1, none⟩) (Nat.le_refl _) _).setCell (p := ⟨w.heap.size, k * 5 + 2, none⟩) (Nat.le_refl _) _).setCell (p := ⟨w.heap.size, k * 5 + 3, none⟩) (Nat.le_refl _) _).setCell (p := ⟨w.heap.size, k * 5 + 4, none⟩) (Nat.le_refl _) _⟩
        case measure => simp [intOf]; omega
      · have HSK := hidm (hsk hz)
        clear hsk hst g0 g1 g2 g3 g4 fz
        by_cases hz0 : 0 ≤ z
        · have hz2 : ¬ z < (X.length : Int) := by omega
          clear hz
          go_wp2
          go_roundw
          case rel => exact ⟨k + 1, by omega, by go_num, by rw [HSK.out]; exact HR.out, hB⟩
          case measure => simp [intOf]; omega
        · clear hz
          go_wp2
          go_roundw
          case rel => exact ⟨k + 1, by omega, by go_num, by rw [HSK.out]; exact HR.out, hB⟩
          case measure => simp [intOf]; omega
    · obtain rfl : k = Z.length := by omega
      rw [pickK_end] at hr
      go_wp2
      go_ret
      exact ⟨_, _, rfl, Nat.le_refl _, hr, hB⟩
end Go.Proofs.Ytpmofaajkhllpaa
