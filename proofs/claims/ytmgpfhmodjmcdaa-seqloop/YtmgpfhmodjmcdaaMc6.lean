/-
  A step of the machine.
-/
import Derived.Test.YtmgpfhmodjmcdaaMc5
import Derived.StillTailTactics
namespace Go.Proofs.Ytmgpfhmodjmcdaa
set_option maxRecDepth 20000
set_option linter.unusedVariables false
open Go.ChangeShapes Go.WideShapes Go.ChangeAt Go.RowKit

theorem step_out {A W : World} {b bm g : Nat} {cv : Value} {X : List Ins} {s : St} (h : IsMc A W b bm g cv X s) (hp : s.place < 0 ∨ X.length ≤ s.place) :
    Calls Try.prog 23 #[.pointer (some ⟨b, 0, none⟩)] W fun e W' => e = .returned (.int .i64 2) ∧ Bel W W' := by
  have c0 := h.codeAt.1
  have c1 := h.placeAt
  obtain ⟨iv, ov, h⟩ := h
  obtain ⟨ao, cap, rfl, _⟩ := h.code
  clear h
  rcases Int.lt_or_le s.place 0 with h0 | h0
  · go_enter Try.func23, Try.ntmps23
    go_wp2_with fail
    go_quiet (fail)
    go_wp2
    go_ret
    exact ⟨rfl, Bel.drewN _ _⟩
  · have hd : decide (s.place < 0) = false := by simpa using h0
    have h1 : (X.length : Int) ≤ s.place := by omega
    go_enter Try.func23, Try.ntmps23
    go_wp2_with fail
    go_quiet (fail)
    go_wp2
    go_ret
    exact ⟨rfl, Bel.drewN _ _⟩
/-- The code's cells, in a later world. -/
theorem IsMc.ins {A W : World} {b bm g : Nat} {cv : Value} {X : List Ins} {s : St} (h : IsMc A W b bm g cv X s) (k : Nat) (hk : k < X.length) : ∃ bc oc cap, cv = .slice (some ⟨bc, oc, none⟩) X.length cap ∧ bc < A.heap.size ∧
    ∀ V, Bel A V → V.cell? ⟨bc, oc + k * 5, none⟩ = some (.int .i64 (X.getD k Ins.zero).o) ∧ V.cell? ⟨bc, oc + k * 5 + 1, none⟩ = some (.int .i64 (X.getD k Ins.zero).a) ∧ V.cell? ⟨bc, oc + k * 5 + 2, none⟩ = some (.int .i64 (X.getD k Ins.zero).b) ∧
    V.cell? ⟨bc, oc + k * 5 + 3, none⟩ = some (.int .i64 (X.getD k Ins.zero).c) ∧ V.cell? ⟨bc, oc + k * 5 + 4, none⟩ = some (.int .i64 (X.getD k Ins.zero).i) := by
  obtain ⟨iv, ov, h⟩ := h
  obtain ⟨ao, cap, rfl, hc⟩ := h.code
  obtain ⟨bc, oc, rfl, hb, hca⟩ := hc (by omega)
  exact ⟨bc, oc, cap, rfl, hb, fun V hV => (hca.stay hb hV) k hk⟩
set_option maxRecDepth 20000 in
set_option maxHeartbeats 4000000 in
theorem step_in {A W : World} {b bm g : Nat} {cv : Value} {X : List Ins} {s : St} (h : IsMc A W b bm g cv X s) (k : Nat) (hp : s.place = k) (hk : k < X.length) (hX : X.length ≤ 4096) :
    Calls Try.prog 23 #[.pointer (some ⟨b, 0, none⟩)] W fun e W' => e = .returned (.int .i64 (stepM X s).1) ∧ IsMc A W' b bm g cv X (stepM X s).2 ∧ Kept (Mut A.heap.size) W W' := by
  have c0 := h.codeAt.1
  have c1 := h.placeAt
  rw [hp] at c1
  obtain ⟨bc, oc, cap, rfl, hbc, hcells⟩ := h.ins k hk
  have hk1 : (k : Int) < X.length := by omega
  have hk0 : (0 : Int) ≤ (k : Int) := by omega
  have hd : decide ((k : Int) < 0) = false := by simp
  have hstep : stepM X s = if (X.getD k Ins.zero).right = true then actM (X.getD k Ins.zero) s else (8, s) := by
    unfold stepM
    rw [if_neg (by omega), hp, Int.toNat_natCast]
  have HStep := hidm hstep
  clear hstep
  have HC := hidm hcells
  clear hcells
  generalize X.getD k Ins.zero = x at *
  go_enter Try.func23, Try.ntmps23
  go_wp2_with fail
  go_quiet (fail)
  go_wp2_with fail
  have hV : Bel W (W.drewN nq) := Bel.drewN W nq
  generalize W.drewN nq = V at hV ⊢
  have h1 := h.stay hV
  have hK : Kept (Mut A.heap.size) W V := Kept.of_bel hV
  obtain ⟨a0, a1, a2, a3, a4⟩ := Hid.out HC V h1.bel
  have c0' := h1.codeAt.1
  have c1' := h1.placeAt
  rw [hp] at c1'
  have n1 := World.new_ne V ⟨b, 0, none⟩ c0'
  have n3 := World.new_ne V ⟨bc, oc + k * 5, none⟩ a0
  have H1 := hidm h1
  have HK := hidm hK
  clear h h1 hK hV c0 c1 HC
  go_region_held3 (fun w' => w'.cell? ⟨b, 0, none⟩ = some (.slice (some ⟨bc, oc, none⟩) X.length cap) ∧ w'.cell? ⟨b, 34, none⟩ = some (.int .i64 (k : Int)) ∧ w'.cell? ⟨bc, oc + k * 5, none⟩ = some (.int .i64 x.o) ∧ w'.cell? ⟨bc, oc + k * 5 + 1, none⟩ = some (.int .i64 x.a) ∧ w'.cell? ⟨bc, oc + k * 5 + 2, none⟩ = some (.int .i64 x.b) ∧ w'.cell? ⟨bc, oc + k * 5 + 3, none⟩ = some (.int .i64 x.c) ∧ w'.cell? ⟨bc, oc + k * 5 + 4, none⟩ = some (.int .i64 x.i)) (go_keep) (fail)
  have HV : Hid (Bel V (V.alloc (insB x.o x.a x.b x.c x.i)).drew) := hidm (((Bel.refl V).alloc _).drew)
  by_cases hr : x.right = true
  · have he1 := Hid.out HStep
    rw [if_pos hr] at he1
    have hbd := right_bd hr
    have HR : Hid (∀ w, Calls Try.prog 29 #[.agg #[.int .i64 x.o, .int .i64 x.a, .int .i64 x.b, .int .i64 x.c, .int .i64 x.i]] w fun e w' => e = .returned (.bool true) ∧ Bel w w') := hidm (fun w => by
      have := right_any x.o x.a x.b x.c x.i w
      rw [show rightB x.o x.a x.b x.c x.i = true from hr] at this
      exact this)
    clear hr a0 a1 a2 a3 a4 c0' c1' n3
    unfold actM at he1
    by_cases hre : reckonsB x.o = true
    · rw [if_pos hre, hp] at he1
      have HE := hidm he1
      clear he1
      have hre' : 1 ≤ x.o ∧ x.o ≤ 11 := by simpa [reckonsB] using hre
      go_wp2_with (first
        | (go_at_call 29; refine (Hid.out HR _).mono ?_; rintro e w2 ⟨rfl, B2⟩; have h2 := ((Hid.out H1).stay (Hid.out HV)).stay B2; have hx2 : w2.heap[V.heap.size]? = some (insB x.o x.a x.b x.c x.i) := (B2.out.block _ (by simp)).trans (heap_new V _); obtain ⟨d0, d1, d2, d3, d4⟩ := insB_cells hx2; have c1 := h2.placeAt; rw [hp] at c1; have f1 := h2.fz 34; have hS := hidm (h2.setPlace (s.place + 1)); rw [hp] at hS; have HB2 := hidm B2; clear B2 h2 hx2)
        | (go_at_call 28; refine (reckons_any _ _).mono ?_; rintro e w' ⟨rfl, rfl⟩; rw [hre])
        | (go_at_call 36; refine (result_any (Hid.out hS).1 x hre' (by omega) (by omega) (by omega)).mono ?_; rintro e w3 ⟨rfl, q1, q2⟩))
      go_ret
      rw [Hid.out HE]
      refine ⟨rfl, q1, ?_⟩
      exact ((((Hid.out HK).trans (Kept.of_bel (Hid.out HV))).trans (Kept.of_bel (Hid.out HB2))).trans (Hid.out hS).2).trans q2
    · have hre' : reckonsB x.o = false := by simpa using hre
      rw [if_neg hre, hp] at he1
      obtain ⟨ka, hka⟩ := nat_of hbd.2.2.1
      obtain ⟨kb, hkb⟩ := nat_of hbd.2.2.2.2.1
      rw [hka, hkb, reg_nat, reg_nat] at he1
      have HE := hidm he1
      clear he1
      have HKA := hidm hka
      have HKB := hidm hkb
      clear hka hkb
      go_wp2_with (first
        | (go_at_call 29; refine (Hid.out HR _).mono ?_; rintro e w2 ⟨rfl, B2⟩; have h2 := ((Hid.out H1).stay (Hid.out HV)).stay B2; have hx2 : w2.heap[V.heap.size]? = some (insB x.o x.a x.b x.c x.i) := (B2.out.block _ (by simp)).trans (heap_new V _); obtain ⟨d0, d1, d2, d3, d4⟩ := insB_cells hx2; have HX2 := hidm hx2; have c1 := h2.placeAt; rw [hp] at c1; have f1 := h2.fz 34; have hS := hidm (h2.setPlace (s.place + 1)); rw [hp] at hS; have HB2 := hidm B2; clear B2 h2 hx2)
        | (go_at_call 28; refine (reckons_any _ _).mono ?_; rintro e w' ⟨rfl, rfl⟩; rw [hre']))
      have hx3 := insB_kept (Hid.out hS).2 (Hid.out HX2)
      have h3 := (Hid.out hS).1
      have HK3 := hidm ((((Hid.out HK).trans (Kept.of_bel (Hid.out HV))).trans (Kept.of_bel (Hid.out HB2))).trans (Hid.out hS).2)
      clear hS HX2 HB2 HV HK H1 c1 f1 d0 d1 d2 d3 d4
      generalize w2.setCell ⟨b, 34, none⟩ (.int .i64 ((k : Int) + 1)) = Y at *
      obtain ⟨d0, d1, d2, d3, d4⟩ := insB_cells hx3
      have hka := Hid.out HKA
      have hkb := Hid.out HKB
      rw [hka] at d1
      rw [hkb] at d2
      have r1 := h3.regAt ka (by omega)
      have r2 := h3.regAt kb (by omega)
      have hA2 : (ka : Int) < 32 := by omega
      have hB2 : (kb : Int) < 32 := by omega
      have HD := hidm (fun va vb => do_any (h3.stay ((Bel.refl Y).drew)) x va vb (by omega) (by omega) (by show 0 ≤ (k : Int) + 1 ∧ (k : Int) + 1 ≤ 1000000; omega))
      rw [hka, hkb] at HD
      clear hka hkb HKA HKB
      dsimp only at r1 r2
      generalize s.regs[ka]?.getD 0 = va at *
      generalize s.regs[kb]?.getD 0 = vb at *
      clear hx3 h3
      go_still_tail 16, (by kernel_rfl)
      all_goals
        go_wp2_with (first
          | (go_at_call 37; refine (Hid.out HD va vb).mono ?_; rintro e w3 ⟨rfl, q1, q2⟩))
        go_ret
        rw [Hid.out HE]
        exact ⟨rfl, q1, ((Hid.out HK3).trans (Kept.drew _ _)).trans q2⟩
  · have he1 := Hid.out HStep
    rw [if_neg hr] at he1
    have HE := hidm he1
    clear he1
    have HR : Hid (∀ w, Calls Try.prog 29 #[.agg #[.int .i64 x.o, .int .i64 x.a, .int .i64 x.b, .int .i64 x.c, .int .i64 x.i]] w fun e w' => e = .returned (.bool false) ∧ Bel w w') := hidm (fun w => by
      have := right_any x.o x.a x.b x.c x.i w
      rw [show rightB x.o x.a x.b x.c x.i = false from by simpa [Ins.right] using hr] at this
      exact this)
    go_wp2_with (go_at_call 29; refine (Hid.out HR _).mono ?_; rintro e w2 ⟨rfl, B2⟩)
    go_ret
    rw [Hid.out HE]
    exact ⟨rfl, ((Hid.out H1).stay (Hid.out HV)).stay B2, ((Hid.out HK).trans (Kept.of_bel (Hid.out HV))).trans (Kept.of_bel B2)⟩
end Go.Proofs.Ytmgpfhmodjmcdaa
