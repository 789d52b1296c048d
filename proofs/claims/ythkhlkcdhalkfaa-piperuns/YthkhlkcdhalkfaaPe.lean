/-
  The machine of five stages: target, leave, finish; layer 7's Reckon.
-/
import Derived.Test.YthkhlkcdhalkfaaPd
namespace Go.Proofs.Ythkhlkcdhalkfaa
set_option maxRecDepth 20000
set_option linter.unusedVariables false
open Go.ChangeShapes Go.WideShapes Go.ChangeAt Go.RowKit

theorem ret_ib {a a' : Int} {t t' : Bool} (h1 : a = a') (h2 : t = t') : Ending.returned (.tuple #[.int .i64 a, .bool t]) = .returned (.tuple #[.int .i64 a', .bool t']) := by rw [h1, h2]
set_option maxHeartbeats 2000000 in
theorem target_any (x : Ins) (here a b c d : Int) (W : World) (hh : 0 ≤ here ∧ here ≤ 100000) (hi : -32768 ≤ x.i ∧ x.i ≤ 32767) :
    Calls Try.prog 48 #[.agg #[.int .i64 x.o, .int .i64 x.a, .int .i64 x.b, .int .i64 x.c, .int .i64 x.i], .int .i64 here, .agg #[.int .i64 a, .int .i64 b, .int .i64 c, .int .i64 d]] W fun e W' => e = .returned (.tuple #[.int .i64 (toP x here a b), .bool (takenP x a b)]) ∧ Bel W W' := by
  obtain ⟨o, xa, xb, xc, i⟩ := x
  dsimp only at *
  have hB : Bel W ((W.alloc (insB o xa xb xc i)).alloc (opsB a b c d)) := ((Bel.refl W).alloc _).alloc _
  by_cases h15 : o = 15
  · subst h15
    go_enter Try.func48, Try.ntmps48
    go_wp2
    go_region
    go_wp2
    go_ret2
    exact ⟨ret_ib (by simp [toP]) (by simp [takenP]), hB.drew⟩
  by_cases h16 : o = 16
  · subst h16
    go_enter Try.func48, Try.ntmps48
    go_wp2
    go_region
    go_wp2
    go_ret2
    exact ⟨ret_ib (by simp [toP]) (by simp [takenP]), hB.drew⟩
  have h15' : (o == 15) = false := by simpa using h15
  have h16' : (o == 16) = false := by simpa using h16
  by_cases h19 : o = 19
  · subst h19
    go_enter Try.func48, Try.ntmps48
    go_wp2
    go_ret2
    exact ⟨ret_ib (by simp [toP]) (by simp [takenP]), hB⟩
  have h19' : (o == 19) = false := by simpa using h19
  go_enter Try.func48, Try.ntmps48
  go_wp2
  go_ret2
  exact ⟨ret_ib (by simp [toP, h15, h16, h19]) (by simp [takenP, h15, h16]), hB⟩
section
variable {A W W' : World} {b bm g : Nat} {cv iv : Value} {X : List Ins} {p : Pt}
theorem finish_any (h : IsQ iv A W b bm g cv X p) (x : Ins) (v t : Int) (hv : Wd v) :
    Calls Try.prog 31 #[.pointer (some ⟨b, 0, none⟩), .agg #[.int .i64 x.o, .int .i64 x.a, .int .i64 x.b, .int .i64 x.c, .int .i64 x.i], .int .i64 v, .int .i64 t] W fun e W' => e = .returned (.int .i64 t) ∧ IsQ iv A W' b bm g cv X (finishP x v t p) ∧ Kept (MutP A.heap.size) W W' := by
  have hB : Bel W (W.alloc (insB x.o x.a x.b x.c x.i)) := (Bel.refl W).alloc _
  have HW := hidm (pwrite_any (h.stay hB) x v hv)
  have H1 := hidm (h.stay hB)
  unfold finishP
  by_cases ht : t = 0
  · rw [if_pos ht]
    subst ht
    go_enter Try.func31, Try.ntmps31
    go_wp2_with (first
      | (go_at_call 47; refine (Hid.out HW).mono ?_; rintro e w2 ⟨rfl, q1, q2⟩))
    go_ret
    exact ⟨rfl, q1, (Kept.alloc _ _ _).trans q2⟩
  · rw [if_neg ht]
    have ht' : (t == 0) = false := by simpa using ht
    go_enter Try.func31, Try.ntmps31
    go_wp2
    go_ret
    exact ⟨rfl, Hid.out H1, Kept.alloc _ _ _⟩
theorem Kept.belP {n₀ : Nat} {W W' : World} (h : Bel W W') : Kept (MutP n₀) W W' := Kept.of_bel h
theorem opsB_kept {n₀ : Nat} {W W' : World} {k : Nat} {a b c d : Int} (hk : Kept (MutP n₀) W W') (h : W.heap[k]? = some (opsB a b c d)) : W'.heap[k]? = some (opsB a b c d) := keptP_box hk h (by decide) (by decide)
set_option maxHeartbeats 2000000 in
theorem leave_any (h : IsQ iv A W b bm g cv X p) (x : Ins) (here a bb c d : Int) (hh : 0 ≤ here ∧ here ≤ 100000) (hi : -32768 ≤ x.i ∧ x.i ≤ 32767) (ha : Wd a) :
    Calls Try.prog 29 #[.pointer (some ⟨b, 0, none⟩), .agg #[.int .i64 x.o, .int .i64 x.a, .int .i64 x.b, .int .i64 x.c, .int .i64 x.i], .int .i64 here, .agg #[.int .i64 a, .int .i64 bb, .int .i64 c, .int .i64 d]] W fun e W' => e = .returned (.tuple #[]) ∧ IsQ iv A W' b bm g cv X (leaveP x here a bb p) ∧ Kept (MutP A.heap.size) W W' := by
  obtain ⟨o, xa, xb, xc, i⟩ := x
  dsimp only at *
  have e1 : (W.alloc (insB o xa xb xc i)).heap.size = W.heap.size + 1 := by simp
  have hB : Bel W ((W.alloc (insB o xa xb xc i)).alloc (opsB a bb c d)) := ((Bel.refl W).alloc _).alloc _
  have HX := hidm (heap_old (o := opsB a bb c d) (heap_new W (insB o xa xb xc i)))
  have hy := heap_new (W.alloc (insB o xa xb xc i)) (opsB a bb c d)
  rw [e1] at hy
  have HY := hidm hy
  have h2 := h.stay hB
  have HT := hidm (fun w => target_any ⟨o, xa, xb, xc, i⟩ here a bb c d w hh hi)
  have hto : Wd (toP ⟨o, xa, xb, xc, i⟩ here a bb) := by
    unfold toP
    dsimp only
    split
    · unfold Wd; omega
    · split
      · exact ha
      · unfold Wd; omega
  unfold leaveP
  dsimp only at HT
  generalize toP ⟨o, xa, xb, xc, i⟩ here a bb = to at *
  generalize takenP ⟨o, xa, xb, xc, i⟩ a bb = tk at *
  unfold linkP
  have H2 := hidm h2
  have HB := hidm hB
  dsimp only
  by_cases h18 : o = 18
  · rw [if_pos h18]
    subst h18
    have HW := hidm (pwrite_any h2 ⟨18, xa, xb, xc, i⟩ (here + 2) (by unfold Wd; omega))
    dsimp only at HW
    clear h h2 hB e1 hy
    cases tk
    · rw [if_neg (by decide)]
      go_enter Try.func29, Try.ntmps29
      go_wp2_with (first
        | (go_at_call 47; refine (Hid.out HW).mono ?_; rintro e w2 ⟨rfl, q1, q2⟩; have hx2 := insP_kept q2 (Hid.out HX); have hy2 := opsB_kept q2 (Hid.out HY); obtain ⟨d0, d1, d2, d3, d4⟩ := insB_cells hx2; obtain ⟨k0, k1, k2, k3⟩ := opsB_cells hy2; have HX2 := hidm hx2; have HY2 := hidm hy2; clear hx2 hy2)
        | (go_at_call 48; refine (Hid.out HT _).mono ?_; rintro e w3 ⟨rfl, hB3⟩))
      go_end0
      exact ⟨rfl, q1.stay hB3, ((Kept.of_bel (Hid.out HB)).trans q2).trans (Kept.of_bel hB3)⟩
    · rw [if_pos rfl]
      go_enter Try.func29, Try.ntmps29
      go_wp2_with (first
        | (go_at_call 47; refine (Hid.out HW).mono ?_; rintro e w2 ⟨rfl, q1, q2⟩; have hx2 := insP_kept q2 (Hid.out HX); have hy2 := opsB_kept q2 (Hid.out HY); obtain ⟨d0, d1, d2, d3, d4⟩ := insB_cells hx2; obtain ⟨k0, k1, k2, k3⟩ := opsB_cells hy2; have HX2 := hidm hx2; have HY2 := hidm hy2; clear hx2 hy2)
        | (go_at_call 48; refine (Hid.out HT _).mono ?_; rintro e w3 ⟨rfl, hB3⟩; have q3 := q1.stay hB3; have t1 := q3.tailAt.2.2.2; have f1 := q3.fz 37; have HS := hidm (q3.setNext to hto); clear q3))
      go_end0
      exact ⟨rfl, (Hid.out HS).1, (((Kept.of_bel (Hid.out HB)).trans q2).trans (Kept.of_bel hB3)).trans (Hid.out HS).2⟩
  · rw [if_neg h18]
    have h18' : (o == 18) = false := by simpa using h18
    clear h h2 hB e1 hy h18
    cases tk
    · rw [if_neg (by decide)]
      go_enter Try.func29, Try.ntmps29
      go_wp2_with (first
        | (go_at_call 48; refine (Hid.out HT _).mono ?_; rintro e w3 ⟨rfl, hB3⟩))
      go_end0
      exact ⟨rfl, (Hid.out H2).stay hB3, (Kept.of_bel (Hid.out HB)).trans (Kept.of_bel hB3)⟩
    · rw [if_pos rfl]
      go_enter Try.func29, Try.ntmps29
      go_wp2_with (first
        | (go_at_call 48; refine (Hid.out HT _).mono ?_; rintro e w3 ⟨rfl, hB3⟩; have q3 := (Hid.out H2).stay hB3; have t1 := q3.tailAt.2.2.2; have f1 := q3.fz 37; have HS := hidm (q3.setNext to hto); clear q3))
      go_end0
      exact ⟨rfl, (Hid.out HS).1, ((Kept.of_bel (Hid.out HB)).trans (Kept.of_bel hB3)).trans (Hid.out HS).2⟩
end
end Go.Proofs.Ythkhlkcdhalkfaa
