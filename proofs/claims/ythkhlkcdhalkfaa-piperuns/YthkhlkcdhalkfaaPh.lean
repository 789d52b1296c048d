/-
  The machine of five stages: act.
-/
import Derived.Test.YthkhlkcdhalkfaaPg
namespace Go.Proofs.Ythkhlkcdhalkfaa
set_option maxRecDepth 20000
set_option linter.unusedVariables false
open Go.ChangeShapes Go.WideShapes Go.ChangeAt Go.RowKit

section
variable {A W W' : World} {b bm g : Nat} {cv iv : Value} {X : List Ins} {p : Pt}
set_option maxRecDepth 20000 in
set_option maxHeartbeats 4000000 in
theorem act_any (h : IsQ iv A W b bm g cv X p) (x : Ins) (va vb vc vd : Int) :
    Calls Try.prog 32 #[.pointer (some ⟨b, 0, none⟩), .agg #[.int .i64 x.o, .int .i64 x.a, .int .i64 x.b, .int .i64 x.c, .int .i64 x.i], .agg #[.int .i64 va, .int .i64 vb, .int .i64 vc, .int .i64 vd]] W fun e W' => e = .returned (.int .i64 (actP x va vb vd p).1) ∧ (∃ iv', IsQ iv' A W' b bm g cv X (actP x va vb vd p).2) ∧ Kept (MutP A.heap.size) W W' := by
  obtain ⟨o, a, xb, xc, i⟩ := x
  dsimp only
  have e1 : (W.alloc (insB o a xb xc i)).heap.size = W.heap.size + 1 := by simp
  have hB : Bel W ((W.alloc (insB o a xb xc i)).alloc (opsB va vb vc vd)) := ((Bel.refl W).alloc _).alloc _
  have HK : Hid (Kept (MutP A.heap.size) W ((W.alloc (insB o a xb xc i)).alloc (opsB va vb vc vd))) := hidm (Kept.of_bel hB)
  have HX := hidm (heap_old (o := opsB va vb vc vd) (heap_new W (insB o a xb xc i)))
  have hy := heap_new (W.alloc (insB o a xb xc i)) (opsB va vb vc vd)
  rw [e1] at hy
  have HY := hidm hy
  have h1 := h.stay hB
  clear e1 hy h hB
  by_cases e12 : o = 12
  · subst e12
    rw [show actP ⟨12, a, xb, xc, i⟩ va vb vd p = loadP ⟨12, a, xb, xc, i⟩ (wrap32 (vb + i)) p from by simp [actP]]
    have hL := hidm (pload_any (h1.stay ((Bel.refl _).drew)) ⟨12, a, xb, xc, i⟩ (wrap32 (vb + i)))
    clear h1
    go_enter Try.func32, Try.ntmps32
    go_wp2_with fail
    go_region_held3 (fun w' => w'.cell? ⟨W.heap.size, 0, none⟩ = some (.int .i64 12) ∧ w'.cell? ⟨W.heap.size, 1, none⟩ = some (.int .i64 a) ∧ w'.cell? ⟨W.heap.size, 2, none⟩ = some (.int .i64 xb) ∧ w'.cell? ⟨W.heap.size, 3, none⟩ = some (.int .i64 xc) ∧ w'.cell? ⟨W.heap.size, 4, none⟩ = some (.int .i64 i) ∧ w'.cell? ⟨W.heap.size + 1, 1, none⟩ = some (.int .i64 vb)) (go_keep) (first
      | (go_at_call 52; refine (add_any _ _ _).mono ?_; rintro e w' ⟨rfl, rfl⟩)
      | (go_at_call 51; refine (Hid.out hL).mono ?_; rintro e w2 ⟨rfl, q1, q2⟩; obtain ⟨d0, d1, d2, d3, d4⟩ := insB_cells (insP_kept q2 (Hid.out HX)); obtain ⟨k0, k1, k2, k3⟩ := opsB_cells (opsB_kept q2 (Hid.out HY))))
    go_wp2
    go_ret
    exact ⟨rfl, ⟨iv, q1⟩, ((Hid.out HK).trans (Kept.drew _ _)).trans q2⟩
  by_cases e13 : o = 13
  · subst e13
    rw [show actP ⟨13, a, xb, xc, i⟩ va vb vd p = storeP (wrap32 (vb + i)) va p from by simp [actP]]
    have hL := hidm (pstore_any (h1.stay ((Bel.refl _).drew)) (wrap32 (vb + i)) va)
    clear h1
    go_enter Try.func32, Try.ntmps32
    go_wp2_with fail
    go_region_held3 (fun w' => w'.cell? ⟨W.heap.size, 4, none⟩ = some (.int .i64 i) ∧ w'.cell? ⟨W.heap.size + 1, 0, none⟩ = some (.int .i64 va) ∧ w'.cell? ⟨W.heap.size + 1, 1, none⟩ = some (.int .i64 vb)) (go_keep) (first
      | (go_at_call 52; refine (add_any _ _ _).mono ?_; rintro e w' ⟨rfl, rfl⟩)
      | (go_at_call 53; refine (Hid.out hL).mono ?_; rintro e w2 ⟨rfl, q1, q2⟩; obtain ⟨d0, d1, d2, d3, d4⟩ := insB_cells (insP_kept q2 (Hid.out HX)); obtain ⟨k0, k1, k2, k3⟩ := opsB_cells (opsB_kept q2 (Hid.out HY))))
    go_wp2
    go_ret
    exact ⟨rfl, ⟨iv, q1⟩, ((Hid.out HK).trans (Kept.drew _ _)).trans q2⟩
  by_cases e14 : o = 14
  · subst e14
    rw [show actP ⟨14, a, xb, xc, i⟩ va vb vd p = (chkT va i xb, p) from by simp [actP]]
    have H1 := hidm h1
    clear h1
    go_enter Try.func32, Try.ntmps32
    go_wp2_with (first
      | (go_at_call 54; refine (pcheck_any _ _ _ _).mono ?_; rintro e w' ⟨rfl, rfl⟩))
    go_ret
    exact ⟨rfl, ⟨iv, Hid.out H1⟩, Hid.out HK⟩
  by_cases e20 : o = 20
  · subst e20
    rw [show actP ⟨20, a, xb, xc, i⟩ va vb vd p = sysP ⟨20, a, xb, xc, i⟩ vd p from by simp [actP]]
    have hL := hidm (psystem_any h1 ⟨20, a, xb, xc, i⟩ vd)
    clear h1
    go_enter Try.func32, Try.ntmps32
    go_wp2_with (first
      | (go_at_call 55; refine (Hid.out hL).mono ?_; rintro e w2 ⟨rfl, q1, q2⟩))
    go_ret
    exact ⟨rfl, q1, (Hid.out HK).trans q2⟩
  rw [show actP ⟨o, a, xb, xc, i⟩ va vb vd p = (0, p) from by simp [actP, e12, e13, e14, e20]]
  have e12' : (o == 12) = false := by simpa using e12
  have e13' : (o == 13) = false := by simpa using e13
  have e14' : (o == 14) = false := by simpa using e14
  have e20' : (o == 20) = false := by simpa using e20
  have H1 := hidm h1
  clear h1 e12 e13 e14 e20
  go_enter Try.func32, Try.ntmps32
  go_wp2
  go_ret
  exact ⟨rfl, ⟨iv, Hid.out H1⟩, Hid.out HK⟩
end
end Go.Proofs.Ythkhlkcdhalkfaa
