/-
  The reference of layer 11: clear.
-/
import Derived.Test.YtpmofaajkhllpaaRo11
namespace Go.Proofs.Ytpmofaajkhllpaa
set_option maxRecDepth 20000
set_option linter.unusedVariables false
open Go.ChangeShapes Go.WideShapes Go.ChangeAt Go.RowKit

/-- The first k of an order are far enough ahead of one behind so many places. -/
def ClrK (X : List Ins) (y : Ins) (Z : List Int) (P : Int) (k : Nat) : Prop := ∀ i, i < k → 0 ≤ Z.getD i 0 → farI (xAt X (Z.getD i 0).toNat) y ≤ P - i
def clearB (X : List Ins) (y : Ins) (Z : List Int) (P : Int) : Bool := (List.range Z.length).all fun i => decide (Z.getD i 0 < 0) || decide (farI (xAt X (Z.getD i 0).toNat) y ≤ P - i)
theorem clearB_iff (X : List Ins) (y : Ins) (Z : List Int) (P : Int) : clearB X y Z P = true ↔ ClrK X y Z P Z.length := by
  unfold clearB ClrK
  simp only [List.all_eq_true, List.mem_range, Bool.or_eq_true, decide_eq_true_eq]
  constructor
  · intro h i hi h0
    rcases h i hi with q | q
    · omega
    · exact q
  · intro h i hi
    by_cases q : Z.getD i 0 < 0
    · exact .inl q
    · exact .inr (h i hi (by omega))
theorem clrK_zero (X : List Ins) (y : Ins) (Z : List Int) (P : Int) : ClrK X y Z P 0 := fun i h => absurd h (Nat.not_lt_zero _)
theorem clrK_skip {X : List Ins} {y : Ins} {Z : List Int} {P : Int} {k : Nat} (h : ClrK X y Z P k) (e : Z.getD k 0 = -1) : ClrK X y Z P (k + 1) := fun i hi h0 => by
  by_cases q : i = k
  · subst q; omega
  · exact h i (by omega) h0
theorem clrK_step {X : List Ins} {y : Ins} {Z : List Int} {P : Int} {k : Nat} (h : ClrK X y Z P k) (j : Nat) (e : Z.getD k 0 = (j : Int)) (hf : farI (xAt X j) y ≤ P - k) : ClrK X y Z P (k + 1) := fun i hi h0 => by
  by_cases q : i = k
  · subst q
    rw [e, Int.toNat_natCast]
    exact hf
  · exact h i (by omega) h0
theorem clrK_bad {X : List Ins} {y : Ins} {Z : List Int} {P : Int} {k : Nat} (hk : k < Z.length) (j : Nat) (e : Z.getD k 0 = (j : Int)) (hf : ¬ farI (xAt X j) y ≤ P - k) : clearB X y Z P = false := by
  rw [Bool.eq_false_iff]
  intro h
  have := (clearB_iff X y Z P).1 h k hk (by omega)
  rw [e, Int.toNat_natCast] at this
  exact hf this

set_option maxHeartbeats 4000000 in
theorem refClear_any (X : List Ins) (Z : List Int) (y : Ins) (P : Int) (v u : Value) (w : World) (hX : X.length ≤ 1000) (hZ : Z.length ≤ 10000) (hP : 0 ≤ P) (hP2 : P ≤ 10000) (hz : ∀ i, i < Z.length → Z.getD i 0 = -1 ∨ ∃ j : Nat, Z.getD i 0 = j ∧ j < X.length) (hv : Code w v X) (hu : Ints .i64 w u Z) :
    Calls Try.prog 28 #[v, u, .agg #[.int .i64 y.o, .int .i64 y.a, .int .i64 y.b, .int .i64 y.c, .int .i64 y.i], .int .i64 P] w fun e w' => e = .returned (.bool (clearB X y Z P)) ∧ Bel w w' := by
  obtain ⟨ao, cap, rfl, hcode⟩ := hv
  obtain ⟨zo, zcap, rfl, hzc⟩ := hu
  have HC := hidm hcode
  have HZC := hidm hzc
  have HZ := hidm hz
  have K0 := hidm (clrK_zero X y Z P)
  have K1 := hidm (fun k => @clrK_skip X y Z P k)
  have K2 := hidm (fun k => @clrK_step X y Z P k)
  have KB := hidm (fun k => @clrK_bad X y Z P k)
  have KE := hidm (clearB_iff X y Z P)
  clear hcode hzc hz
  have hB := (Bel.refl w).alloc (.cells #[.int .i64 y.o, .int .i64 y.a, .int .i64 y.b, .int .i64 y.c, .int .i64 y.i] 30)
  have hyb := heap_new w (.cells #[.int .i64 y.o, .int .i64 y.a, .int .i64 y.b, .int .i64 y.c, .int .i64 y.i] 30)
  obtain ⟨y0, y1, y2, y3, y4⟩ := box_cells hyb
  have hyl := lt_of_heap hyb
  have Y0 := later_cell y0 hyl
  have Y1 := later_cell y1 hyl
  have Y2 := later_cell y2 hyl
  have Y3 := later_cell y3 hyl
  have Y4 := later_cell y4 hyl
  clear y0 y1 y2 y3 y4 hyb
  go_enter Try.func28, Try.ntmps28
  go_wp2
  generalize w.alloc (.cells #[.int .i64 y.o, .int .i64 y.a, .int .i64 y.b, .int .i64 y.c, .int .i64 y.i] 30) = wB at hB hyl Y0 Y1 Y2 Y3 Y4 ⊢
  haveI := Later.ne wB
  obtain ⟨u0, e0⟩ := later_start wB
  rw [← e0]
  clear e0
  go_loopw [9] (fun i wr => ∃ (k : Nat) (q : Later wB), k ≤ Z.length ∧ i = .int .i64 k ∧ Hid (ClrK X y Z P k) ∧ wr = q.at_) (fun i _ => Z.length - (intOf i).toNat)
  case atStart => exact ⟨0, _, Nat.zero_le _, rfl, K0.out, rfl⟩
  case round =>
    obtain ⟨k, q, hk, rfl, hck, rfl⟩ := hrel
    by_cases hlt : k < Z.length
    · obtain ⟨bo, oo, rfl, hbo, hcz⟩ := HZC.out (by omega)
      have c0 := ((bcell hB).1 bo (oo + k) hbo).trans (hcz k hlt)
      rw [show Z[k]?.getD 0 = Z.getD k 0 from rfl] at c0
      have hbB : bo < wB.heap.size := Nat.lt_of_lt_of_le hbo hB.size
      have C0 := later_cell c0 hbB
      have hin := HZ.out k hlt
      have S1 := hidm (fun h => K1.out k hck.out h)
      have S2 := hidm (fun j e h => K2.out k hck.out j e h)
      have S3 := hidm (fun j e h => KB.out k hlt j e h)
      have hkI : (k : Int) < Z.length := by omega
      clear hcz c0 K0 K1 K2 KB KE HZ HZC hck
      generalize Z.getD k 0 = z at C0 hin S1 S2 S3
      rcases hin with rfl | ⟨j, rfl, hj⟩
      · have HH := hidm (S1.out rfl)
        clear S1 S2 S3 HC
        go_wp2
        refine wp_region_later (by kernel_rfl) (by kernel_rfl) ?_
        repeat (go_big_quiet_step (fail))
        refine wpQuiet_nil ?_
        rintro _ ⟨q2, rfl⟩
        go_wp2
        go_roundw
        case rel => exact ⟨k + 1, q2, by omega, by go_num, HH.out, rfl⟩
        case measure => simp [intOf] <;> omega
      · obtain ⟨b, o, rfl, hb, hca⟩ := HC.out (by omega)
        obtain ⟨a0, a1, a2, a3, a4⟩ := (hca.stay hb hB) j hj
        rw [show X.getD j Ins.zero = xAt X j from rfl] at a0 a1 a2 a3 a4
        have hbB2 : b < wB.heap.size := Nat.lt_of_lt_of_le hb hB.size
        have A0 := later_cell a0 hbB2
        have A1 := later_cell a1 hbB2
        have A2 := later_cell a2 hbB2
        have A3 := later_cell a3 hbB2
        have A4 := later_cell a4 hbB2
        have T1 := hidm (S2.out j rfl)
        have T2 := hidm (S3.out j rfl)
        have hfb := farI_bd (xAt X j) y
        have hfar := fun ww => refFar_any (xAt X j) y ww
        unfold Ins.val at hfar
        have hjI : (j : Int) < X.length := by omega
        clear a0 a1 a2 a3 a4 hca HC S1 S2 S3
        generalize xAt X j = x at A0 A1 A2 A3 A4 T1 T2 hfb hfar
        generalize farI x y = d at T1 T2 hfb hfar
        by_cases h1 : d ≤ P - k
        · have HH := hidm (T1.out h1)
          clear T1 T2
          go_wp2
          refine wp_region_later (by kernel_rfl) (by kernel_rfl) ?_
          repeat (go_big_quiet_step (first | (go_at_call 20; exact later_of (hfar _))))
          refine wpQuiet_nil ?_
          rintro _ ⟨q2, rfl⟩
          go_wp2
          go_roundw
          case rel => exact ⟨k + 1, q2, by omega, by go_num, HH.out, rfl⟩
          case measure => simp [intOf] <;> omega
        · have HH := hidm (T2.out (by omega))
          clear T1 T2
          go_wp2
          refine wp_region_later (by kernel_rfl) (by kernel_rfl) ?_
          repeat (go_big_quiet_step (first | (go_at_call 20; exact later_of (hfar _))))
          refine wpQuiet_nil ?_
          rintro _ ⟨q2, rfl⟩
          go_wp2
          go_ret
          exact ⟨ret_bool HH.out.symm, btrans hB q2.is_⟩
    · obtain rfl : k = Z.length := by omega
      have HH := hidm (KE.out.2 hck.out)
      clear K0 K1 K2 KB KE HZ HZC HC
      go_wp2
      go_ret
      exact ⟨ret_bool HH.out.symm, btrans hB q.is_⟩
/-- What the document asks of the place of the last one, as the first place says it. -/
theorem fst_clear {X : List Ins} {Z : List Int} {E j : Nat} (hz : ∀ i, i < Z.length → Z.getD i 0 = -1 ∨ ∃ j : Nat, Z.getD i 0 = j ∧ j < X.length) (hE : Z.length = E + 1) (hj : lastI Z = (j : Int)) :
    fstN X Z ≤ E ↔ farI (xAt X j) (xAt X (X.length - 1)) = 0 ∧ clearB X (xAt X (X.length - 1)) (Z.take E) E = true := by
  have h1 := fstN_eq X Z
  have h2 := fstK_le X (xAt X (X.length - 1)) Z E (by omega) Z.length
  have eE : Z.getD E 0 = (j : Int) := by rw [← hj]; unfold lastI; rw [hE, Nat.add_sub_cancel]
  have hfb := farI_bd (xAt X j) (xAt X (X.length - 1))
  have e3 : (Z.take E).length = E := by rw [List.length_take]; omega
  have e4 : ∀ i, i < E → (Z.take E).getD i 0 = Z.getD i 0 := fun i hi => by simp [List.getD, hi]
  rw [clearB_iff]
  unfold ClrK
  rw [e3]
  have h3 : fstN X Z ≤ E ↔ fstK X (xAt X (X.length - 1)) Z Z.length ≤ (E : Int) := by rw [h1]; omega
  rw [h3, h2]
  constructor
  · intro h
    refine ⟨?_, fun i hi h0 => ?_⟩
    · have := h E (by omega) (by omega)
      rw [eE, Int.toNat_natCast] at this
      omega
    · rw [e4 i hi] at h0 ⊢
      have hfb2 := farI_bd (xAt X (Z.getD i 0).toNat) (xAt X (X.length - 1))
      have := h i (by omega) (by omega)
      omega
  · rintro ⟨k1, k2⟩ i hi hne hf
    by_cases q : i = E
    · subst q
      rw [eE, Int.toNat_natCast] at hf
      omega
    · have hi2 : i < E := by omega
      have := k2 i hi2 (by rw [e4 i hi2]; rcases hz i hi with s | ⟨t, s, _⟩ <;> omega)
      rw [e4 i hi2] at this
      omega
theorem pad_clear {X : List Ins} {Z : List Int} (hz : ∀ i, i < Z.length → Z.getD i 0 = -1 ∨ ∃ j : Nat, Z.getD i 0 = j ∧ j < X.length) (p : Nat) :
    clearB X (xAt X (X.length - 1)) (Z ++ List.replicate p (-1)) ((Z.length + p : Nat) : Int) = decide (fstN X Z ≤ Z.length + p) := by
  have h1 := fstN_eq X Z
  have h2 := fstK_le X (xAt X (X.length - 1)) Z ((Z.length + p : Nat) : Int) (by omega) Z.length
  have h3 : fstN X Z ≤ Z.length + p ↔ fstK X (xAt X (X.length - 1)) Z Z.length ≤ ((Z.length + p : Nat) : Int) := by rw [h1]; omega
  rw [Bool.eq_iff_iff, clearB_iff, decide_eq_true_eq, h3, h2]
  unfold ClrK
  have e1 : ∀ i, i < Z.length → (Z ++ List.replicate p (-1 : Int)).getD i 0 = Z.getD i 0 := fun i hi => by simp [List.getD, List.getElem?_append_left hi]
  have e2 : (Z ++ List.replicate p (-1 : Int)).length = Z.length + p := by simp
  constructor
  · intro h i hi hne hf
    have := h i (by rw [e2]; omega) (by rw [e1 i hi]; rcases hz i hi with s | ⟨t, s, _⟩ <;> omega)
    rw [e1 i hi] at this
    omega
  · intro h i hi h0
    rw [e2] at hi
    by_cases q : i < Z.length
    · rw [e1 i q] at h0 ⊢
      have hfb2 := farI_bd (xAt X (Z.getD i 0).toNat) (xAt X (X.length - 1))
      have := h i q (by omega)
      omega
    · have e5 : (Z ++ List.replicate p (-1 : Int)).getD i 0 = -1 := by
        rw [List.getD, List.getElem?_append_right (by omega), List.getElem?_replicate, if_pos (by omega)]
        rfl
      omega
theorem pad_in {X : List Ins} {Z : List Int} (hz : ∀ i, i < Z.length → Z.getD i 0 = -1 ∨ ∃ j : Nat, Z.getD i 0 = j ∧ j < X.length) (p : Nat) : ∀ i, i < (Z ++ List.replicate p (-1 : Int)).length → (Z ++ List.replicate p (-1 : Int)).getD i 0 = -1 ∨ ∃ j : Nat, (Z ++ List.replicate p (-1 : Int)).getD i 0 = (j : Int) ∧ j < X.length := fun i hi => by
  by_cases q : i < Z.length
  · rw [show (Z ++ List.replicate p (-1 : Int)).getD i 0 = Z.getD i 0 by simp [List.getD, List.getElem?_append_left q]]
    exact hz i q
  · left
    have e2 : (Z ++ List.replicate p (-1 : Int)).length = Z.length + p := by simp
    rw [List.getD, List.getElem?_append_right (by omega), List.getElem?_replicate, if_pos (by omega)]
    rfl
end Go.Proofs.Ytpmofaajkhllpaa
