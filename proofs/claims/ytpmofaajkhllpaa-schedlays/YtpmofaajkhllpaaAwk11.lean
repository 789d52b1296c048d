/-
  The statements' fixed answer (stage 11).
-/
import Derived.Test.YtpmofaajkhllpaaLy11
import Derived.Test.YtpmofaajkhllpaaPk11
import Derived.Test.YtpmofaajkhllpaaLit
import Derived.Test.YtpmofaajkhllpaaSam
namespace Go.Proofs.Ytpmofaajkhllpaa
set_option maxRecDepth 20000
set_option linter.unusedVariables false
open Go.ChangeShapes Go.WideShapes Go.ChangeAt Go.RowKit

def readyB (X : List Ins) (Z : List Int) (j : Nat) : Bool := decide (whereI Z j < 0) && (List.range j).all fun i => decide (farI (xAt X i) (xAt X j) ≤ 0) || (decide (0 ≤ whereI Z i) && decide (farI (xAt X i) (xAt X j) ≤ Z.length - whereI Z i))
theorem readyB_iff (X : List Ins) (Z : List Int) (j : Nat) : readyB X Z j = true ↔ ReadyP X Z j := by
  unfold readyB ReadyP Stands
  simp only [Bool.and_eq_true, decide_eq_true_eq, List.all_eq_true, List.mem_range, Bool.or_eq_true]
  constructor
  · rintro ⟨h1, h2⟩
    refine ⟨by omega, fun i hi hf => ?_⟩
    rcases h2 i hi with q | q
    · omega
    · exact q
  · rintro ⟨h1, h2⟩
    refine ⟨by omega, fun i hi => ?_⟩
    by_cases q : 0 < farI (xAt X i) (xAt X j)
    · exact .inr (h2 i hi q)
    · exact .inl (by omega)
def bestB (X : List Ins) (Z : List Int) (x : Int) : Bool :=
  (decide (x = -1) && (List.range X.length).all fun j => !readyB X Z j) || (decide (0 ≤ x) && decide (x.toNat < X.length) && readyB X Z x.toNat && (List.range X.length).all fun k => !readyB X Z k || decide (hAt X k < hAt X x.toNat ∨ (hAt X x.toNat = hAt X k ∧ x ≤ k)))
theorem bestB_best {X : List Ins} {Z : List Int} {x : Int} (h : bestB X Z x = true) : BestP X Z x := by
  unfold bestB at h
  simp only [Bool.or_eq_true, Bool.and_eq_true, decide_eq_true_eq, List.all_eq_true, List.mem_range, Bool.not_eq_true'] at h
  rcases h with ⟨h1, h2⟩ | ⟨⟨⟨h1, h2⟩, h3⟩, h4⟩
  · exact .inl ⟨h1, fun j hj q => by have := h2 j hj; rw [(readyB_iff X Z j).2 q] at this; cases this⟩
  · refine .inr ⟨x.toNat, by omega, h2, (readyB_iff _ _ _).1 h3, fun k hk q => ?_⟩
    rcases h4 k hk with s | s
    · rw [(readyB_iff X Z k).2 q] at s; cases s
    · unfold le2
      simp only
      omega
def ordSB (X : List Ins) (Z : List Int) : Bool :=
  ((List.range Z.length).all fun k => bestB X (Z.take k) (Z.getD k 0) && (List.range X.length).any fun j => decide (whereI (Z.take k) j < 0)) && (List.range X.length).all fun j => decide (0 ≤ whereI Z j)
theorem ordSB_ord {X : List Ins} {Z : List Int} (h : ordSB X Z = true) : OrdS X Z := by
  unfold ordSB at h
  simp only [Bool.and_eq_true, decide_eq_true_eq, List.all_eq_true, List.any_eq_true, List.mem_range] at h
  obtain ⟨h1, h2⟩ := h
  have key : ∀ k, k ≤ Z.length → Steps X (Z.take k) := by
    intro k
    induction k with
    | zero => intro _; exact .nil
    | succ k ih =>
      intro hk
      have e : Z.take (k + 1) = Z.take k ++ [Z.getD k 0] := by rw [List.take_succ_eq_append_getElem (by omega)]; simp [List.getD, show k < Z.length by omega]
      rw [e]
      obtain ⟨q1, j, q2, q3⟩ := h1 k (by omega)
      exact .snoc (ih (by omega)) ⟨j, q2, by unfold Stands; omega⟩ (bestB_best q1)
  have := key Z.length (Nat.le_refl _)
  rw [List.take_length] at this
  exact ⟨this, h2⟩
def awk3 : List Ins := [⟨12, 1, 0, 0, 0⟩, ⟨1, 2, 1, 1, 0⟩, ⟨17, 0, 0, 0, 0⟩]
theorem awk_ord : ordSB (awk3.take 2) [0, -1, 1] = true := by decide +kernel
theorem awk_goes : (xAt awk3 (awk3.length - 1)).goes = true := by decide +kernel
theorem awk_layG : layG awk3 [0, -1, 1] = [0, -1, 2, 1] := by decide +kernel
theorem awk_lay {M : List Int} (h : LayS awk3 M) : M = [0, -1, 2, 1] := by
  rcases h with ⟨h, _⟩ | ⟨_, _, Z, hZ, rfl⟩ | ⟨_, h, _⟩
  · cases h
  · rw [ord_one hZ (ordSB_ord awk_ord)]
    exact awk_layG
  · rw [awk_goes] at h; cases h
theorem awk_pick : ([2, -1] : List Int).map (pickI awk3) = [⟨17, 0, 0, 0, 0⟩, Ins.zero] := by first | rfl | simp [pickI, awk3]
theorem lit_code {W : World} {k : Nat} (h : W.heap[k]? = some (.cells #[.int .i64 12, .int .i64 1, .int .i64 0, .int .i64 0, .int .i64 0, .int .i64 1, .int .i64 2, .int .i64 1, .int .i64 1, .int .i64 0, .int .i64 17, .int .i64 0, .int .i64 0, .int .i64 0, .int .i64 0] 30)) (c : Nat) : Code W (.slice (some ⟨k, 0, none⟩) 3 c) awk3 := code_lit (X := awk3) h 3 c rfl
theorem ints_lit {W : World} {k : Nat} {L : List Int} {t : TypeId} {f : Nat × Nat} (h : W.heap[k]? = some (.cells (L.map (Value.int .i64)).toArray t f)) (n c : Nat) (hn : n = L.length) : Ints .i64 W (.slice (some ⟨k, 0, none⟩) n c) L := by
  subst hn
  refine ⟨_, c, rfl, fun _ => ⟨k, 0, rfl, lt_of_heap h, fun j hj => ?_⟩⟩
  rw [Nat.zero_add, cell_of h]
  simp [hj]
theorem awk_lay_at (w : World) : Calls Try.prog 15 #[.slice (some ⟨w.heap.size, 0, none⟩) 3 3] (w.alloc (.cells #[.int .i64 12, .int .i64 1, .int .i64 0, .int .i64 0, .int .i64 0, .int .i64 1, .int .i64 2, .int .i64 1, .int .i64 1, .int .i64 0, .int .i64 17, .int .i64 0, .int .i64 0, .int .i64 0, .int .i64 0] 30)) fun e W' => ∃ ao c, e = .returned (.slice ao 4 c) ∧ Ints .i64 W' (.slice ao 4 c) [0, -1, 2, 1] ∧ Code W' (.slice (some ⟨w.heap.size, 0, none⟩) 3 3) awk3 ∧ Bel w W' := by
  have hc := lit_code (heap_new w (.cells #[.int .i64 12, .int .i64 1, .int .i64 0, .int .i64 0, .int .i64 0, .int .i64 1, .int .i64 2, .int .i64 1, .int .i64 1, .int .i64 0, .int .i64 17, .int .i64 0, .int .i64 0, .int .i64 0, .int .i64 0] 30)) 3
  refine (lay_any awk3 _ _ (by decide) hc (fun ao n c e => by cases e; exact Nat.le_refl _)).mono ?_
  rintro e W' ⟨v', M, rfl, hL, ho, hb⟩
  obtain rfl := awk_lay hL
  obtain ⟨ao, c, rfl⟩ := ownI_form ho
  exact ⟨ao, c, rfl, own_ints ho, code_bel hc hb, btrans ((Bel.refl w).alloc _) hb⟩
theorem awk_pick_at (v : Value) (w : World) (hv : Code w v awk3) : Calls Try.prog 14 #[v, .slice (some ⟨w.heap.size, 0, none⟩) 2 2] (w.alloc (.cells #[.int .i64 2, .int .i64 (-1)] 3)) fun e W' => ∃ g c, e = .returned (.slice (some ⟨g, 0, none⟩) 2 c) ∧ W'.cell? ⟨g, 0, none⟩ = some (.int .i64 17) ∧ W'.cell? ⟨g, 5, none⟩ = some (.int .i64 0) ∧ g < W'.heap.size ∧ Bel w W' := by
  refine (pick_any awk3 [2, -1] v _ _ (by decide) (by decide) (code_bel hv ((Bel.refl w).alloc _)) (ints_lit (heap_new w _) 2 2 rfl)).mono ?_
  rintro e W' ⟨g, c, rfl, _, h, hb⟩
  rw [awk_pick] at h
  exact ⟨g, c, rfl, (codeB_at h 0 (by decide)).1, (codeB_at h 1 (by decide)).1, lt_of_heap h, btrans ((Bel.refl w).alloc _) hb⟩
set_option maxHeartbeats 1000000 in
theorem awake_any (w : World) : Calls Try.prog 10 #[] w fun e w' => e = .returned (.bool true) ∧ Bel w w' := by
  go_enter Try.func10, Try.ntmps10
  go_wp2_with (first
    | (have q := t2; go_at_call 11; refine (same_any _ _ [0, -1, 2, 1] [0, -1, 2, 1] _ ((i1.bel b2).bel ((Bel.refl _).alloc _)) (ints_lit (heap_new w2 _) 4 4 rfl) (by decide)).mono ?_; rintro e w3 ⟨rfl, b3⟩; rw [sameB_self]; have d3 := ((bcell b3).1 g 0 (by simp; omega)).trans ((bcell ((Bel.refl w2).alloc _)).1 g 0 l2 |>.trans d2); have e3 := ((bcell b3).1 g 5 (by simp; omega)).trans ((bcell ((Bel.refl w2).alloc _)).1 g 5 l2 |>.trans e2); have t3 : Hid True := True.intro)
    | (have q := t1; go_at_call 14; refine (awk_pick_at _ w1 hc1).mono ?_; rintro e w2 ⟨g, c2, rfl, d2, e2, l2, b2⟩; have t2 : Hid True := True.intro)
    | (go_at_call 15; refine (awk_lay_at w).mono ?_; rintro e w1 ⟨ao, c, rfl, i1, hc1, b1⟩; have t1 : Hid True := True.intro))
  go_ret
  exact ⟨rfl, btrans (btrans b1 b2) (btrans ((Bel.refl _).alloc _) b3)⟩
end Go.Proofs.Ytpmofaajkhllpaa
