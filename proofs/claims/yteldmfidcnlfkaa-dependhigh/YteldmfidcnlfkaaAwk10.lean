/-
  The statements' fixed answer (stage 10).
-/
import Derived.Test.YteldmfidcnlfkaaDk
import Derived.Test.YteldmfidcnlfkaaLit
import Derived.Laws.StructEq
namespace Go.Proofs.Yteldmfidcnlfkaa
set_option maxRecDepth 20000
set_option linter.unusedVariables false
open Go.ChangeShapes Go.WideShapes Go.ChangeAt Go.RowKit

def awkL : Ins := ⟨12, 1, 0, 0, 0⟩
def awkA : Ins := ⟨1, 2, 1, 0, 0⟩
def awkX : List Ins := [awkL, awkA]
theorem awk_far1 : farI awkL awkA = 2 := by decide +kernel
theorem awk_far2 : farI awkA awkL = 1 := by decide +kernel
theorem awk_far3 : farI Ins.zero awkA = 0 := by decide +kernel
theorem awk_hgt : hgt awkX = [2, 0] := by decide +kernel
theorem ord_wide : OrdOk [0, -1, 1] 2 := by unfold OrdOk GoodK; decide
theorem ord_plain : OrdOk [0, 1] 2 := by unfold OrdOk GoodK; decide
theorem awk_wide : keepsB awkX [0, -1, 1] = true := by
  rw [keepsB_iff]
  refine ⟨ord_wide, fun i j p q hij hj hp hq ep eq hf => ?_⟩
  have hj' : j < 2 := hj
  obtain rfl : i = 0 := by omega
  obtain rfl : j = 1 := by omega
  have e : farI (awkX.getD 0 Ins.zero) (awkX.getD 1 Ins.zero) = 2 := awk_far1
  rw [e]
  match p, q, hp, hq, ep, eq with
  | 0, 2, _, _, _, _ => decide
  | 0, 0, _, _, _, eq => simp at eq
  | 0, 1, _, _, _, eq => simp at eq
  | 1, _, _, _, ep, _ => simp at ep
  | 2, _, _, _, ep, _ => simp at ep
theorem awk_plain : keepsB awkX [0, 1] = false := by
  refine keepsB_no fun h => ?_
  have := h.2 0 1 0 1 (by omega) (by decide) (by decide) (by decide) rfl rfl (by show 0 < farI awkL awkA; rw [awk_far1]; omega)
  have e : farI (awkX.getD 0 Ins.zero) (awkX.getD 1 Ins.zero) = 2 := awk_far1
  rw [e] at this
  omega
theorem ints_lit {W : World} {k : Nat} {L : List Int} {t : TypeId} {f : Nat × Nat} (h : W.heap[k]? = some (.cells (L.map (Value.int .i64)).toArray t f)) (n c : Nat) (hn : n = L.length) : Ints .i64 W (.slice (some ⟨k, 0, none⟩) n c) L := by
  subst hn
  refine ⟨_, c, rfl, fun _ => ⟨k, 0, rfl, lt_of_heap h, fun j hj => ?_⟩⟩
  rw [Nat.zero_add, cell_of h]
  simp [hj]
theorem heights_awake (v : Value) (W : World) (hv : Code W v awkX) :
    Calls Try.prog 14 #[v] W fun e W' => ∃ g c, e = .returned (.slice (some ⟨g, 0, none⟩) 2 c) ∧ W'.cell? ⟨g, 0, none⟩ = some (.int .i64 2) ∧ g < W'.heap.size ∧ Bel W W' := by
  refine (heights_any awkX v W (by decide) hv).mono ?_
  rintro e W' ⟨g, c, rfl, h1, h2, h3⟩
  exact ⟨g, c, rfl, (int_cell h2 0 (by decide)).trans (by rw [awk_hgt]; rfl), lt_of_heap h2, h3⟩
theorem keeps_wide (v u : Value) (W : World) (hv : Code W v awkX) (hu : Ints .i64 W u [0, -1, 1]) : Calls Try.prog 16 #[v, u] W fun e W' => e = .returned (.bool true) ∧ Bel W W' := by
  have := keeps_any awkX [0, -1, 1] v u W (by decide) (by decide) hv hu
  rwa [awk_wide] at this
theorem keeps_plain (v u : Value) (W : World) (hv : Code W v awkX) (hu : Ints .i64 W u [0, 1]) : Calls Try.prog 16 #[v, u] W fun e W' => e = .returned (.bool false) ∧ Bel W W' := by
  have := keeps_any awkX [0, 1] v u W (by decide) (by decide) hv hu
  rwa [awk_plain] at this
theorem far_awake1 (W : World) : Calls Try.prog 10 #[.agg #[.int .i64 12, .int .i64 1, .int .i64 0, .int .i64 0, .int .i64 0], .agg #[.int .i64 1, .int .i64 2, .int .i64 1, .int .i64 0, .int .i64 0]] W fun e W' => e = .returned (.int .i64 2) ∧ Bel W W' := by
  have := far_any awkL awkA W
  rwa [awk_far1] at this
theorem far_awake2 (W : World) : Calls Try.prog 10 #[.agg #[.int .i64 1, .int .i64 2, .int .i64 1, .int .i64 0, .int .i64 0], .agg #[.int .i64 12, .int .i64 1, .int .i64 0, .int .i64 0, .int .i64 0]] W fun e W' => e = .returned (.int .i64 1) ∧ Bel W W' := by
  have := far_any awkA awkL W
  rwa [awk_far2] at this
theorem far_awake3 (W : World) : Calls Try.prog 10 #[.agg #[.int .i64 0, .int .i64 0, .int .i64 0, .int .i64 0, .int .i64 0], .agg #[.int .i64 1, .int .i64 2, .int .i64 1, .int .i64 0, .int .i64 0]] W fun e W' => e = .returned (.int .i64 0) ∧ Bel W W' := by
  have := far_any Ins.zero awkA W
  rwa [awk_far3] at this
theorem lit_code {W : World} {k : Nat} (h : W.heap[k]? = some (.cells #[.int .i64 12, .int .i64 1, .int .i64 0, .int .i64 0, .int .i64 0, .int .i64 1, .int .i64 2, .int .i64 1, .int .i64 0, .int .i64 0] 23)) (c : Nat) : Code W (.slice (some ⟨k, 0, none⟩) 2 c) awkX := code_lit (X := awkX) h 2 c rfl
theorem wide_at (W : World) : Calls Try.prog 16 #[.slice (some ⟨W.heap.size, 0, none⟩) 2 2, .slice (some ⟨W.heap.size + 1, 0, none⟩) 3 3] ((W.alloc (.cells #[.int .i64 12, .int .i64 1, .int .i64 0, .int .i64 0, .int .i64 0, .int .i64 1, .int .i64 2, .int .i64 1, .int .i64 0, .int .i64 0] 23)).alloc (.cells #[.int .i64 0, .int .i64 (-1), .int .i64 1] 3)) fun e W' => e = .returned (.bool true) ∧ Bel W W' :=
  (keeps_wide _ _ _ (lit_code (heap_old (heap_new W _)) 2) (ints_lit (heap_newN (by simp)) 3 3 rfl)).mono fun e W' h => ⟨h.1, btrans (((Bel.refl W).alloc _).alloc _) h.2⟩
theorem plain_at (W : World) : Calls Try.prog 16 #[.slice (some ⟨W.heap.size, 0, none⟩) 2 2, .slice (some ⟨W.heap.size + 1, 0, none⟩) 2 2] ((W.alloc (.cells #[.int .i64 12, .int .i64 1, .int .i64 0, .int .i64 0, .int .i64 0, .int .i64 1, .int .i64 2, .int .i64 1, .int .i64 0, .int .i64 0] 23)).alloc (.cells #[.int .i64 0, .int .i64 1] 3)) fun e W' => e = .returned (.bool false) ∧ Bel W W' :=
  (keeps_plain _ _ _ (lit_code (heap_old (heap_new W _)) 2) (ints_lit (heap_newN (by simp)) 2 2 rfl)).mono fun e W' h => ⟨h.1, btrans (((Bel.refl W).alloc _).alloc _) h.2⟩
theorem heights_at (w : World) : Calls Try.prog 14 #[.slice (some ⟨w.heap.size + 1 + 1, 0, none⟩) 2 2] (((w.alloc (.cells #[.int .i64 12, .int .i64 1, .int .i64 0, .int .i64 0, .int .i64 0] 23)).alloc (.cells #[.int .i64 1, .int .i64 2, .int .i64 1, .int .i64 0, .int .i64 0] 23)).alloc (.cells #[.int .i64 12, .int .i64 1, .int .i64 0, .int .i64 0, .int .i64 0, .int .i64 1, .int .i64 2, .int .i64 1, .int .i64 0, .int .i64 0] 23)) fun e W' => ∃ g c, e = .returned (.slice (some ⟨g, 0, none⟩) 2 c) ∧ W'.cell? ⟨g, 0, none⟩ = some (.int .i64 2) ∧ g < W'.heap.size ∧ W'.heap[w.heap.size]? = some (.cells #[.int .i64 12, .int .i64 1, .int .i64 0, .int .i64 0, .int .i64 0] 23) ∧ W'.heap[w.heap.size + 1]? = some (.cells #[.int .i64 1, .int .i64 2, .int .i64 1, .int .i64 0, .int .i64 0] 23) ∧ Bel w W' := by
  refine (heights_awake _ _ (lit_code (heap_newN (by simp)) 2)).mono ?_
  rintro e W' ⟨g, c, rfl, h1, h2, h3⟩
  exact ⟨g, c, rfl, h1, h2, bel_heap h3 (heap_old (heap_old (heap_new w _))), bel_heap h3 (heap_old (heap_newN (by simp))), btrans ((((Bel.refl w).alloc _).alloc _).alloc _) h3⟩
set_option maxHeartbeats 1000000 in
theorem awake_any (w : World) : Calls Try.prog 12 #[] w fun e w' => e = .returned (.bool true) ∧ Bel w w' := by
  go_enter Try.func12, Try.ntmps12
  go_wp2_with (first
    | (have q := t5; go_at_call 16; refine (plain_at _).mono ?_; rintro e w7 ⟨rfl, g7⟩)
    | (have q := t3; go_at_call 16; refine (wide_at _).mono ?_; rintro e w6 ⟨rfl, g6⟩; have x6 := bel_heap g6 x4; have y6 := bel_heap g6 y4; obtain ⟨m0, m1, m2, m3, m4⟩ := box_cells x6; obtain ⟨n0, n1, n2, n3, n4⟩ := box_cells y6; have t5 : Hid True := True.intro)
    | (have q := t2; go_at_call 10; refine (far_awake3 _).mono ?_; rintro e w4 ⟨rfl, g4⟩; have x4 := bel_heap g4 x3; have y4 := bel_heap g4 y3; obtain ⟨i0, i1, i2, i3, i4⟩ := box_cells x4; obtain ⟨j0, j1, j2, j3, j4⟩ := box_cells y4; have d4 := ((bcell g4).1 _ 0 (Nat.lt_of_lt_of_le l1 (Nat.le_trans g2.size g3.size))).trans d3; have t3 : Hid True := True.intro)
    | (have q := t1; go_at_call 10; refine (far_awake2 _).mono ?_; rintro e w3 ⟨rfl, g3⟩; have x3 := bel_heap g3 x2; have y3 := bel_heap g3 y2; obtain ⟨u0, u1, u2, u3, u4⟩ := box_cells x3; obtain ⟨v0, v1, v2, v3, v4⟩ := box_cells y3; have d3 := ((bcell g3).1 _ 0 (Nat.lt_of_lt_of_le l1 g2.size)).trans d2; have t2 : Hid True := True.intro)
    | (go_at_call 10; refine (far_awake1 _).mono ?_; rintro e w2 ⟨rfl, g2⟩; have x2 := bel_heap g2 x1; have y2 := bel_heap g2 y1; obtain ⟨r0, r1, r2, r3, r4⟩ := box_cells x2; obtain ⟨s0, s1, s2, s3, s4⟩ := box_cells y2; have d2 := ((bcell g2).1 _ 0 l1).trans d1; have t1 : Hid True := True.intro)
    | (go_at_call 14; refine (heights_at w).mono ?_; rintro e w1 ⟨g, c, rfl, d1, l1, x1, y1, g1⟩; obtain ⟨p0, p1, p2, p3, p4⟩ := box_cells x1; obtain ⟨q0, q1, q2, q3, q4⟩ := box_cells y1))
  go_ret
  exact ⟨rfl, btrans g1 (btrans g2 (btrans g3 (btrans g4 (btrans g6 g7))))⟩
end Go.Proofs.Yteldmfidcnlfkaa
