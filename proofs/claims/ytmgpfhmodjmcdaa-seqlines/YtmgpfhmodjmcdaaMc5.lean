/-
  What one instruction that does not reckon does: the machine's do.
-/
import Derived.Test.YtmgpfhmodjmcdaaMc4
namespace Go.Proofs.Ytmgpfhmodjmcdaa
set_option maxRecDepth 20000
set_option linter.unusedVariables false
open Go.ChangeShapes Go.WideShapes Go.ChangeAt Go.RowKit

set_option maxRecDepth 20000 in
set_option maxHeartbeats 4000000 in
theorem do_any {A W : World} {b bm g : Nat} {cv : Value} {X : List Ins} {s : St} (h : IsMc A W b bm g cv X s) (x : Ins) (va vb : Int) (ha : 0 ≤ x.a ∧ x.a ≤ 31) (hi : -32768 ≤ x.i ∧ x.i ≤ 32767) (hp : 0 ≤ s.place ∧ s.place ≤ 1000000) :
    Calls Try.prog 37 #[.pointer (some ⟨b, 0, none⟩), .agg #[.int .i64 x.o, .int .i64 x.a, .int .i64 x.b, .int .i64 x.c, .int .i64 x.i], .int .i64 va, .int .i64 vb] W fun e W' => e = .returned (.int .i64 (doM x va vb s).1) ∧ IsMc A W' b bm g cv X (doM x va vb s).2 ∧ Kept (Mut A.heap.size) W W' := by
  obtain ⟨o, a, xb, xc, i⟩ := x
  dsimp only at ha hi ⊢
  have hB : Bel W (W.alloc (insB o a xb xc i)) := (Bel.refl W).alloc _
  have hK : Kept (Mut A.heap.size) W (W.alloc (insB o a xb xc i)) := Kept.alloc _ _ _
  have hbx := heap_new W (insB o a xb xc i)
  have h1 := h.stay hB
  by_cases e12 : o = 12
  · subst e12
    rw [show doM ⟨12, a, xb, xc, i⟩ va vb s = loadM a (wrap32 (vb + i)) s from by simp [doM]]
    have hL := hidm (mload_any (h1.stay ((Bel.refl _).drew)) a (wrap32 (vb + i)) ha)
    have HX := hidm hbx
    have H1 := hidm h1
    have HK := hidm hK
    clear hbx h1 hK hB
    go_enter Try.func37, Try.ntmps37
    go_wp2_with fail
    go_region_held3 (fun w' => w'.cell? ⟨W.heap.size, 1, none⟩ = some (.int .i64 a) ∧ w'.cell? ⟨W.heap.size, 4, none⟩ = some (.int .i64 i)) (go_keep) (first
      | (go_at_call 44; refine (add_any _ _ _).mono ?_; rintro e w' ⟨rfl, rfl⟩)
      | (go_at_call 51; refine (Hid.out hL).mono ?_; rintro e w2 ⟨rfl, q1, q2⟩; obtain ⟨d0, d1, d2, d3, d4⟩ := insB_cells (insB_kept q2 (Hid.out HX))))
    go_wp2
    go_ret
    exact ⟨rfl, q1, ((Hid.out HK).trans (Kept.drew _ _)).trans q2⟩
  by_cases e13 : o = 13
  · subst e13
    rw [show doM ⟨13, a, xb, xc, i⟩ va vb s = storeM (wrap32 (vb + i)) va s from by simp [doM]]
    have hL := hidm (mstore_any h1 (wrap32 (vb + i)) va)
    have HK := hidm hK
    clear hbx h1 hK hB
    go_enter Try.func37, Try.ntmps37
    go_wp2_with (first
      | (go_at_call 44; refine (add_any _ _ _).mono ?_; rintro e w' ⟨rfl, rfl⟩)
      | (go_at_call 52; refine (Hid.out hL).mono ?_; rintro e w2 ⟨rfl, q1, q2⟩))
    go_ret
    exact ⟨rfl, q1, (Hid.out HK).trans q2⟩
  by_cases e14 : o = 14
  · subst e14
    rw [show doM ⟨14, a, xb, xc, i⟩ va vb s = (chkT va i xb, s) from by simp [doM]]
    have HK := hidm hK
    have H1 := hidm h1
    clear hbx h1 hK hB
    go_enter Try.func37, Try.ntmps37
    go_wp2_with (first
      | (go_at_call 53; refine (check_any _ _ _ _).mono ?_; rintro e w' ⟨rfl, rfl⟩))
    go_ret
    exact ⟨rfl, Hid.out H1, Hid.out HK⟩
  by_cases e15 : o = 15
  · subst e15
    rw [show doM ⟨15, a, xb, xc, i⟩ va vb s = (0, goM (va == vb) i s) from by simp [doM]]
    have hL := hidm (fun t => branch_any h1 t i (by omega) (by omega))
    have HK := hidm hK
    clear hbx h1 hK hB
    go_enter Try.func37, Try.ntmps37
    go_wp2_with (first
      | (go_at_call 54; refine (Hid.out hL _).mono ?_; rintro e w2 ⟨rfl, q1, q2⟩))
    go_ret
    exact ⟨rfl, q1, (Hid.out HK).trans q2⟩
  by_cases e16 : o = 16
  · subst e16
    rw [show doM ⟨16, a, xb, xc, i⟩ va vb s = (0, goM (va != vb) i s) from by simp [doM]]
    have hL := hidm (fun t => branch_any h1 t i (by omega) (by omega))
    have HK := hidm hK
    clear hbx h1 hK hB
    go_enter Try.func37, Try.ntmps37
    go_wp2_with (first
      | (go_at_call 54; refine (Hid.out hL _).mono ?_; rintro e w2 ⟨rfl, q1, q2⟩))
    go_ret
    exact ⟨rfl, q1, (Hid.out HK).trans q2⟩
  by_cases e17 : o = 17
  · subst e17
    rw [show doM ⟨17, a, xb, xc, i⟩ va vb s = (0, { s with place := i }) from by simp [doM]]
    have c1 := h1.placeAt
    have f1 := h1.fz 34
    unfold insB at c1 f1
    have hS := hidm (h1.setPlace i)
    have HK := hidm hK
    clear hbx h1 hK hB
    go_enter Try.func37, Try.ntmps37
    go_wp2
    go_ret
    exact ⟨rfl, (Hid.out hS).1, (Hid.out HK).trans (Hid.out hS).2⟩
  by_cases e18 : o = 18
  · subst e18
    rw [show doM ⟨18, a, xb, xc, i⟩ va vb s = (0, { s with regs := setR s.regs 31 s.place, place := i }) from by simp [doM]]
    have c1 := h1.placeAt
    unfold insB at c1
    have hL := hidm (set_any h1 31 s.place (by omega) (by unfold Wd; omega))
    have HX := hidm hbx
    have HK := hidm hK
    clear hbx h1 hK hB
    go_enter Try.func37, Try.ntmps37
    go_wp2_with (first
      | (go_at_call 50; refine (Hid.out hL).mono ?_; rintro e w2 ⟨rfl, q1, q2⟩; have d4 := (insB_cells (insB_kept q2 (Hid.out HX))).2.2.2.2; have c2 := q1.placeAt; have f2 := q1.fz 34; have hS := hidm (q1.setPlace i)))
    go_ret
    exact ⟨rfl, (Hid.out hS).1, ((Hid.out HK).trans q2).trans (Hid.out hS).2⟩
  by_cases e19 : o = 19
  · subst e19
    rw [show doM ⟨19, a, xb, xc, i⟩ va vb s = (0, { s with place := va }) from by simp [doM]]
    have c1 := h1.placeAt
    have f1 := h1.fz 34
    unfold insB at c1 f1
    have hS := hidm (h1.setPlace va)
    have HK := hidm hK
    clear hbx h1 hK hB
    go_enter Try.func37, Try.ntmps37
    go_wp2
    go_ret
    exact ⟨rfl, (Hid.out hS).1, (Hid.out HK).trans (Hid.out hS).2⟩
  by_cases e20 : o = 20
  · subst e20
    rw [show doM ⟨20, a, xb, xc, i⟩ va vb s = sysM i s from by simp [doM]]
    have hL := hidm (system_any h1 i)
    have HK := hidm hK
    clear hbx h1 hK hB
    go_enter Try.func37, Try.ntmps37
    go_wp2_with (first
      | (go_at_call 55; refine (Hid.out hL).mono ?_; rintro e w2 ⟨rfl, q1, q2⟩))
    go_ret
    exact ⟨rfl, q1, (Hid.out HK).trans q2⟩
  rw [show doM ⟨o, a, xb, xc, i⟩ va vb s = (0, s) from by simp [doM, *]]
  have f12 : (o == 12) = false := by simpa using e12
  have f13 : (o == 13) = false := by simpa using e13
  have f14 : (o == 14) = false := by simpa using e14
  have f15 : (o == 15) = false := by simpa using e15
  have f16 : (o == 16) = false := by simpa using e16
  have f17 : (o == 17) = false := by simpa using e17
  have f18 : (o == 18) = false := by simpa using e18
  have f19 : (o == 19) = false := by simpa using e19
  have f20 : (o == 20) = false := by simpa using e20
  have HK := hidm hK
  have H1 := hidm h1
  clear hbx h1 hK hB
  go_enter Try.func37, Try.ntmps37
  go_wp2
  go_ret
  exact ⟨rfl, Hid.out H1, Hid.out HK⟩
end Go.Proofs.Ytmgpfhmodjmcdaa
