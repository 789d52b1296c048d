/-
  The contract of the reference's Heights.
-/
import Derived.Test.YtpmofaajkhllpaaRg
import Derived.Test.YtpmofaajkhllpaaDn
import Derived.Test.YtpmofaajkhllpaaIb
import Derived.RegionTactic
namespace Go.Proofs.Ytpmofaajkhllpaa
set_option maxRecDepth 20000
set_option linter.unusedVariables false
open Go.ChangeShapes Go.WideShapes Go.ChangeAt Go.RowKit

/-- The heights of all from place k on, the others 0. -/
def hgtF (X : List Ins) (k : Nat) : Nat → Int := fun j => if k ≤ j then (hgt X).getD j 0 else 0
/-- And at place i what the places from k on ask. -/
def hgtG (X : List Ins) (i k : Nat) : Nat → Int := fun j => if j = i then most (X.getD i Ins.zero) (addL X (fun j => (hgt X).getD j 0) k) else hgtF X (i + 1) j
theorem hgtF_end (X : List Ins) : ∀ j, j < X.length → hgtF X X.length j = 0 := fun j hj => by unfold hgtF; rw [if_neg (by omega)]
theorem hgtG_start (X : List Ins) (i : Nat) : ∀ j, j < X.length → hgtG X i X.length j = hgtF X (i + 1) j := fun j hj => by
  unfold hgtG
  by_cases e : j = i
  · rw [if_pos e, addL_end X _ _ (Nat.le_refl _)]
    unfold hgtF
    rw [if_neg (by omega)]
    rfl
  · rw [if_neg e]
theorem hgtG_done (X : List Ins) (i : Nat) (hi : i < X.length) : ∀ j, j < X.length → hgtG X i (i + 1) j = hgtF X i j := fun j hj => by
  unfold hgtG
  by_cases e : j = i
  · rw [if_pos e, ← hgt_at X i hi, e]
    unfold hgtF
    rw [if_pos (Nat.le_refl _)]
  · rw [if_neg e]
    unfold hgtF
    by_cases e2 : i + 1 ≤ j
    · rw [if_pos e2, if_pos (by omega)]
    · rw [if_neg e2, if_neg (by omega)]
theorem hgtG_at (X : List Ins) (i k : Nat) : hgtG X i k i = most (X.getD i Ins.zero) (addL X (fun j => (hgt X).getD j 0) k) := by unfold hgtG; rw [if_pos rfl]
theorem hgtG_other (X : List Ins) (i k j : Nat) (h : i < j) : hgtG X i k j = (hgt X).getD j 0 := by
  unfold hgtG hgtF
  rw [if_neg (by omega), if_pos (by omega)]
theorem most_step (X : List Ins) (x : Ins) (k : Nat) (hk : k < X.length) : most x (addL X (fun j => (hgt X).getD j 0) k) = if 0 < farI x (X.getD k Ins.zero) then max (most x (addL X (fun j => (hgt X).getD j 0) (k + 1))) ((hgt X).getD k 0 + farI x (X.getD k Ins.zero)) else most x (addL X (fun j => (hgt X).getD j 0) (k + 1)) := by
  rw [addL_step X _ k hk]
  rfl
/-- Nothing is stored. -/
theorem hgtG_keep {X : List Ins} {i k : Nat} (hik : i < k) (hk : k < X.length) (h : ¬ (0 < farI (X.getD i Ins.zero) (X.getD k Ins.zero) ∧ hgtG X i (k + 1) i < farI (X.getD i Ins.zero) (X.getD k Ins.zero) + hgtG X i (k + 1) k)) : ∀ j, j < X.length → hgtG X i (k + 1) j = hgtG X i k j := fun j hj => by
  rw [hgtG_at, hgtG_other X i _ k hik] at h
  unfold hgtG
  by_cases e : j = i
  · rw [if_pos e, if_pos e, most_step X _ k hk]
    split <;> omega
  · rw [if_neg e, if_neg e]
theorem hgtG_set {X : List Ins} {i k : Nat} (hik : i < k) (hk : k < X.length) (h : 0 < farI (X.getD i Ins.zero) (X.getD k Ins.zero) ∧ hgtG X i (k + 1) i < farI (X.getD i Ins.zero) (X.getD k Ins.zero) + hgtG X i (k + 1) k) : ∀ j, j < X.length → updN (hgtG X i (k + 1)) i (farI (X.getD i Ins.zero) (X.getD k Ins.zero) + hgtG X i (k + 1) k) j = hgtG X i k j := fun j hj => by
  rw [hgtG_at, hgtG_other X i _ k hik] at h
  rw [hgtG_other X i _ k hik]
  unfold updN
  by_cases e : j = i
  · rw [if_pos e, e, hgtG_at, most_step X _ k hk, if_pos h.1]
    omega
  · rw [if_neg e]
    unfold hgtG
    rw [if_neg e, if_neg e]
theorem hgtG_bd {X : List Ins} (hl : X.length ≤ 1000) {i k : Nat} (hik : i < k) (j : Nat) (hj : j < X.length) : 0 ≤ hgtG X i k j ∧ hgtG X i k j ≤ 10000 := by
  have hh : ∀ j, j < X.length → 0 ≤ (hgt X).getD j 0 ∧ (hgt X).getD j 0 ≤ 2000 := fun j hj => by have := hgt_bd X j hj; omega
  unfold hgtG
  split
  · have := most_bd (m := 2000) (by omega) (X.getD i Ins.zero) (addL_good hh k)
    omega
  · unfold hgtF
    split
    · have := hh j hj
      omega
    · omega

set_option maxHeartbeats 2000000 in
theorem refHeights_any (X : List Ins) (v : Value) (w : World) (hl : X.length ≤ 1000) (hv : Code w v X) :
    Calls Try.prog 23 #[v] w fun e w' => ∃ g c, e = .returned (.slice (some ⟨g, 0, none⟩) X.length c) ∧ w.heap.size ≤ g ∧ w'.heap[g]? = some (intB (fun j => (hgt X).getD j 0) X.length) ∧ Bel w w' := by
  obtain ⟨ao, cap, rfl, hcode⟩ := hv
  have HC := hidm hcode
  clear hcode
  have hmk : ∀ W : World, (Instr.makeSlice 25 (.int .i64 X.length) (.int .i64 X.length)).run Try.prog W = .ok (.slice (some ⟨W.heap.size, 0, none⟩) X.length X.length) (W.alloc (intB (fun _ => 0) X.length)) := fun W => make_ints X.length (by omega) _ rfl W
  have r0 : (w.alloc (intB (fun _ => 0) X.length)).heap[w.heap.size]? = some (intB (hgtF X X.length) X.length) := (heap_new w _).trans (by rw [intB_cong (fun j hj => (hgtF_end X j hj).symm)])
  have B0 := (Bel.refl w).alloc (intB (fun _ => 0) X.length)
  have hs0 : w.heap.size < (w.alloc (intB (fun _ => 0) X.length)).heap.size := by simp
  go_enter Try.func23, Try.ntmps23
  go_wp2
  generalize w.alloc (intB (fun _ => 0) X.length) = w0 at r0 B0 hs0 ⊢
  clear hmk
  go_loopw [4] (fun i wr => ∃ k : Nat, k ≤ X.length ∧ i = .int .i64 ((k : Int) - 1) ∧ wr.heap[w.heap.size]? = some (intB (hgtF X k) X.length) ∧ Bel w wr) (fun i _ => (intOf i + 1).toNat)
  case atStart => exact ⟨X.length, Nat.le_refl _, rfl, r0, B0⟩
  case round =>
    obtain ⟨k, hk, rfl, hrow, hB⟩ := hrel
    rename World => wr
    clear r0 B0 hs0 w0
    by_cases hlt : 0 < k
    · obtain ⟨i, rfl⟩ : ∃ m, k = m + 1 := ⟨k - 1, by omega⟩
      have e1 : ((i + 1 : Nat) : Int) - 1 = i := by omega
      rw [e1]
      have hrow2 := hrow.trans (by rw [intB_cong (fun j hj => (hgtG_start X i j hj).symm)])
      clear hrow
      go_wp2
      go_loopw [5] (fun n wi => ∃ k : Nat, i < k ∧ k ≤ X.length ∧ n = .int .i64 ((k : Int) - 1) ∧ wi.heap[w.heap.size]? = some (intB (hgtG X i k) X.length) ∧ Bel w wi) (fun n _ => (intOf n + 1).toNat)
      case atStart => exact ⟨X.length, by omega, Nat.le_refl _, rfl, hrow2, hB⟩
      case round =>
        obtain ⟨k, hik, hkl, rfl, hrow, hB2⟩ := hrel
        rename World => wi
        clear hrow2 hB wr
        by_cases hlt2 : i + 1 < k
        · obtain ⟨m, rfl⟩ : ∃ m, k = m + 1 := ⟨k - 1, by omega⟩
          have e2 : ((m + 1 : Nat) : Int) - 1 = m := by omega
          rw [e2]
          have him : i < m := by omega
          obtain ⟨b, o, rfl, hb, hca⟩ := HC.out (by omega)
          have hbi : b < wi.heap.size := by have := hB2.size; omega
          have hcw := hca.stay hb hB2
          obtain ⟨a0, a1, a2, a3, a4⟩ := hcw i (by omega)
          obtain ⟨b0, b1, b2, b3, b4⟩ := hcw m (by omega)
          have A0 := later_cell a0 hbi
          have A1 := later_cell a1 hbi
          have A2 := later_cell a2 hbi
          have A3 := later_cell a3 hbi
          have A4 := later_cell a4 hbi
          have D0 := later_cell b0 hbi
          have D1 := later_cell b1 hbi
          have D2 := later_cell b2 hbi
          have D3 := later_cell b3 hbi
          have D4 := later_cell b4 hbi
          have HKEEP := hidm (fun h => hgtG_keep (X := X) him (by omega) h)
          have HSET := hidm (fun h => hgtG_set (X := X) him (by omega) h)
          have hf1 := hgtG_bd hl (X := X) (i := i) (k := m + 1) (by omega) i (by omega)
          have hf2 := hgtG_bd hl (X := X) (i := i) (k := m + 1) (by omega) m (by omega)
          have hfb := farI_bd (X.getD i Ins.zero) (X.getD m Ins.zero)
          have hfar := fun ww => refFar_any (X.getD i Ins.zero) (X.getD m Ins.zero) ww
          unfold Ins.val at hfar
          generalize X.getD i Ins.zero = x at A0 A1 A2 A3 A4 HKEEP HSET hfb hfar
          generalize X.getD m Ins.zero = y at D0 D1 D2 D3 D4 HKEEP HSET hfb hfar
          generalize farI x y = d at HKEEP HSET hfb hfar
          generalize hF : hgtG X i (m + 1) = f at hrow HKEEP HSET hf1 hf2
          clear hF hca hcw a0 a1 a2 a3 a4 b0 b1 b2 b3 b4 hb
          have hil : (i : Int) < X.length := by omega
          have hml : (m : Int) < X.length := by omega
          have himI : (i : Int) < m := by omega
          have hilN : i < X.length := by omega
          have hmlN : m < X.length := by omega
          haveI := Later.ne wi
          obtain ⟨u1, eu⟩ := later_start wi
          rw [← eu]
          clear eu
          go_wp2
          refine wp_region_later (by kernel_rfl) (by kernel_rfl) ?_
          repeat (go_big_quiet_step (first | (go_at_call 20; exact later_of (hfar _))))
          refine wpQuiet_nil ?_
          rintro _ ⟨u2, rfl⟩
          have hB3 := btrans hB2 u2.is_
          have hrow3 := bel_heap u2.is_ hrow
          clear A0 A1 A2 A3 A4 D0 D1 D2 D3 D4 hrow hB2 hfar
          generalize u2.at_ = w3 at hB3 hrow3 ⊢
          have c1 := int_cell hrow3 i hilN
          have c2 := int_cell hrow3 m hmlN
          have f1 := int_fz hrow3 i
          by_cases h1 : 0 < d
          · by_cases h2 : f i < d + f m
            · have HR := hidm (int_set (W := w3.drew) hrow3 i (d + f m))
              have HE := hidm (intB_cong (HSET.out ⟨h1, h2⟩))
              clear HKEEP HSET
              generalize f i = fi at c1 h2 hf1
              generalize f m = fm at c2 h2 hf2 HR HE
              go_wp2
              go_region
              go_wp2
              go_roundw
              case rel => exact ⟨m, by omega, by omega, by go_num, HR.out.trans (by rw [HE.out]), hB3.drew.setCell (Nat.le_refl _) _⟩
              case measure => simp [intOf] <;> omega
            · have HE := hidm (intB_cong (HKEEP.out (fun q => h2 q.2)))
              clear HKEEP HSET
              generalize f i = fi at c1 h2 hf1
              generalize f m = fm at c2 h2 hf2
              go_wp2
              go_region
              go_wp2
              go_roundw
              case rel => exact ⟨m, by omega, by omega, by go_num, hrow3.trans (by rw [HE.out]), hB3.drew⟩
              case measure => simp [intOf] <;> omega
          · have HE := hidm (intB_cong (HKEEP.out (fun q => h1 q.1)))
            clear HKEEP HSET
            obtain rfl : d = 0 := by omega
            clear h1
            generalize f i = fi at c1 hf1
            generalize f m = fm at c2 hf2
            go_wp2
            go_region
            go_wp2
            go_roundw
            case rel => exact ⟨m, by omega, by omega, by go_num, hrow3.trans (by rw [HE.out]), hB3.drew⟩
            case measure => simp [intOf] <;> omega
        · obtain rfl : k = i + 1 := by omega
          have hrow4 := hrow.trans (by rw [intB_cong (hgtG_done X i (by omega))])
          go_wp2
          go_roundw
          case rel => exact ⟨i, by omega, by go_num, hrow4, hB2⟩
          case measure => simp [intOf] <;> omega
    · obtain rfl : k = 0 := by omega
      go_wp2
      go_ret
      refine ⟨_, _, rfl, Nat.le_refl _, hrow.trans ?_, hB⟩
      rw [intB_cong (fun j hj => show hgtF X 0 j = (hgt X).getD j 0 by unfold hgtF; rw [if_pos (Nat.zero_le _)])]
end Go.Proofs.Ytpmofaajkhllpaa
