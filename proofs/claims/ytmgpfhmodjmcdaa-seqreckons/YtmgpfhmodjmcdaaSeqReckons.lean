/-
  The law 'SeqReckons' of delayslotlaw07 returns true at every instruction and any two numbers: what is made of them is what the document says, or that it does not reckon.
  Conditions: none.
-/
import Derived.Test.YtmgpfhmodjmcdaaRows
import Derived.WalkKit
import Derived.ProofKit
import Derived.OpenShut
import Derived.ShutString
import Derived.ChangeOld
import Derived.Below
import Derived.Carry
import Derived.Test.YtmgpfhmodjmcdaaSd
import Derived.Test.YtmgpfhmodjmcdaaRv2
import Derived.Test.YtmgpfhmodjmcdaaRr2R
import Derived.Test.YtmgpfhmodjmcdaaAwk7
namespace Go.Proofs.Ytmgpfhmodjmcdaa.seqReckons
open Go.ChangeShapes Go.WideShapes Go.ChangeAt Go.RowKit
open Go.ChangeMaps (open_string shut_string)
set_option linter.unusedVariables false

theorem laidOut : laidOutB Try.prog = true := by kernel_rfl
theorem own : ownKnob Try.prog.godebug = none := by kernel_rfl
theorem cells34 : Try.prog.cellsOf 34 = 5 := by kernel_rfl
theorem rec_zero {o i x y : Int} (h : ¬ recT o y = 0) : recV o i x y = 0 ∧ recT o y = 4 := by
  unfold recT at h ⊢
  split at h
  · rename_i h1
    rw [if_pos h1]
    obtain ⟨h2, h3⟩ := h1
    refine ⟨?_, rfl⟩
    rcases h2 with rfl | rfl <;> simp [recV, h3]
  · exact absurd rfl h

set_option maxRecDepth 20000 in
set_option maxHeartbeats 2000000 in
theorem walk (w : World) (o0 a0 b0 c0 i0 : Int) (wo0 : (Lit.int .i64 o0).wf = true) (wa0 : (Lit.int .i64 a0).wf = true) (wb0 : (Lit.int .i64 b0).wf = true) (wc0 : (Lit.int .i64 c0).wf = true) (wi0 : (Lit.int .i64 i0).wf = true) (x1 : Int) (wx1 : (Lit.int .i64 x1).wf = true) (x2 : Int) (wx2 : (Lit.int .i64 x2).wf = true) :
    Calls Try.prog 7 #[.agg #[.int .i64 o0, .int .i64 a0, .int .i64 b0, .int .i64 c0, .int .i64 i0], .int .i64 x1, .int .i64 x2] w fun e w' => e = .returned (.bool true) ∧ Bel w w' := by
  have g1 := wf_i64 wx1
  have g2 := wf_i64 wx2
  have hB0 : Bel w (w.alloc (insB o0 a0 b0 c0 i0)) := (Bel.refl w).alloc _
  have hbx0 := heap_new w (insB o0 a0 b0 c0 i0)
  by_cases hr : rightB o0 a0 b0 c0 i0 = true
  · have hbd := right_bd hr
    have HRf : Hid (∀ w, Calls Try.prog 19 #[.agg #[.int .i64 o0, .int .i64 a0, .int .i64 b0, .int .i64 c0, .int .i64 i0]] w fun e w' => e = .returned (.bool true) ∧ Bel w w') := hidm (fun w => by
      have := refRight_any o0 a0 b0 c0 i0 w
      rw [hr] at this
      exact this)
    by_cases ho : reckonsB o0 = true
    · have ho' : 1 ≤ o0 ∧ o0 ≤ 11 := by simpa [reckonsB] using ho
      have HRe := hidm (fun w => reckonX o0 a0 b0 c0 i0 x1 x2 w hr ho)
      have HVa := hidm (fun w => value_any o0 a0 b0 c0 i0 (wrap32 x1) (wrap32 x2) w ho' (wd_wrap _) (wd_wrap _) (by omega))
      have HOk := hidm (fun h => val_ok (o := o0) (i := i0) (x := wrap32 x1) (y := wrap32 x2) ho' (wd_wrap _) (wd_wrap _) (by omega) h)
      have HZ := hidm (fun h => rec_zero (o := o0) (i := i0) (x := wrap32 x1) (y := wrap32 x2) h)
      have HX := hidm hbx0
      have HB := hidm hB0
      obtain ⟨o1, o2⟩ := ho'
      have o3 : ¬ o0 < 1 := by omega
      have o4 : ¬ 11 < o0 := by omega
      clear hr ho hbx0 hB0 hbd
      generalize recV o0 i0 (wrap32 x1) (wrap32 x2) = rv at *
      generalize valU o0 i0 (wrap32 x1) (wrap32 x2) = vu at *
      generalize recT o0 (wrap32 x2) = rt at *
      go_enter Try.func7, Try.ntmps7
      go_wp2_with (first
        | (go_at_call 18; refine (Hid.out HRe _).mono ?_; rintro e w1 ⟨rfl, b1⟩; have hx1 := (b1.out.block _ (by simp)).trans (Hid.out HX); obtain ⟨d0, d1, d2, d3, d4⟩ := insB_cells hx1; have B1 := btrans (Hid.out HB) b1; have HX1 := hidm hx1; clear hx1 b1)
        | (go_at_call 19; refine (Hid.out HRf _).mono ?_; rintro e w2 ⟨rfl, b2⟩; have hx2 := (b2.out.block _ (lt_of_heap (Hid.out HX1))).trans (Hid.out HX1); obtain ⟨f0, f1, f2, f3, f4⟩ := insB_cells hx2; have lb := lt_of_heap hx2; have B2 := btrans B1 b2; clear hx2 b2))
      have c0 := later_cell f0 lb
      have c1 := later_cell f1 lb
      have c2 := later_cell f2 lb
      have c3 := later_cell f3 lb
      have c4 := later_cell f4 lb
      clear d0 d1 d2 d3 d4 f0 f1 f2 f3 f4
      haveI := Later.ne w2
      obtain ⟨u1, e1⟩ := later_start w2
      rw [← e1]
      clear e1
      refine wp_region_later (by kernel_rfl) (by kernel_rfl) ?_
      repeat (go_big_quiet_step (first | (go_at_call 21; exact later_of ((refWrap_any _ _ (by omega) (by omega)).mono fun e w' ⟨h1, h2⟩ => ⟨h1, by rw [h2]; exact Bel.refl _⟩)) | (go_at_call 20; exact later_of (Hid.out HVa _))))
      refine wpQuiet_nil ?_
      rintro _ ⟨u2, rfl⟩
      by_cases ht : rt = 0
      · obtain ⟨k1, k2⟩ := Hid.out HOk ht
        unfold Mid at k2
        subst ht
        have K1 := hidm k1
        clear k1
        go_wp2_with (first
          | (go_at_call 21; refine (refWrap_any _ _ (by omega) (by omega)).mono ?_; rintro e w' ⟨rfl, rfl⟩; rw [Hid.out K1])
          | (go_at_call 14; refine (awake_any _).mono ?_; rintro e w4 ⟨rfl, b4⟩))
        go_ret
        exact ⟨rfl, btrans (btrans B2 u2.is_) b4⟩
      · obtain ⟨rfl, rfl⟩ := Hid.out HZ ht
        clear ht
        go_wp2_with (first
          | (go_at_call 14; refine (awake_any _).mono ?_; rintro e w4 ⟨rfl, b4⟩))
        go_ret
        exact ⟨rfl, btrans (btrans B2 u2.is_) b4⟩
    · have ho2 : reckonsB o0 = false := by simpa using ho
      have HRe := hidm (fun w => reckon_no o0 a0 b0 c0 i0 x1 x2 w (.inr ho2))
      have ho' : o0 < 1 ∨ (¬ o0 < 1 ∧ 11 < o0) := by
        have : ¬ (1 ≤ o0 ∧ o0 ≤ 11) := by simpa [reckonsB] using ho
        omega
      have HX := hidm hbx0
      have HB := hidm hB0
      clear hr ho ho2 hbx0 hB0
      rcases ho' with o3 | ⟨o3, o4⟩
      all_goals
        go_enter Try.func7, Try.ntmps7
        go_wp2_with (first
          | (go_at_call 18; refine (Hid.out HRe _).mono ?_; rintro e w1 ⟨rfl, b1⟩; have hx1 := (b1.out.block _ (by simp)).trans (Hid.out HX); obtain ⟨d0, d1, d2, d3, d4⟩ := insB_cells hx1; have B1 := btrans (Hid.out HB) b1; have HX1 := hidm hx1; clear hx1 b1)
          | (go_at_call 19; refine (Hid.out HRf _).mono ?_; rintro e w2 ⟨rfl, b2⟩; have hx2 := (b2.out.block _ (lt_of_heap (Hid.out HX1))).trans (Hid.out HX1); obtain ⟨f0, f1, f2, f3, f4⟩ := insB_cells hx2; have B2 := btrans B1 b2; clear hx2 b2)
          | (go_at_call 14; refine (awake_any _).mono ?_; rintro e w4 ⟨rfl, b4⟩))
        go_ret
        exact ⟨rfl, btrans B2 b4⟩
  · have hr2 : rightB o0 a0 b0 c0 i0 = false := by simpa using hr
    have HRf : Hid (∀ w, Calls Try.prog 19 #[.agg #[.int .i64 o0, .int .i64 a0, .int .i64 b0, .int .i64 c0, .int .i64 i0]] w fun e w' => e = .returned (.bool false) ∧ Bel w w') := hidm (fun w => by
      have := refRight_any o0 a0 b0 c0 i0 w
      rw [hr2] at this
      exact this)
    have HRe := hidm (fun w => reckon_no o0 a0 b0 c0 i0 x1 x2 w (.inl hr2))
    have HX := hidm hbx0
    have HB := hidm hB0
    clear hr hr2 hbx0 hB0
    go_enter Try.func7, Try.ntmps7
    go_wp2_with (first
      | (go_at_call 18; refine (Hid.out HRe _).mono ?_; rintro e w1 ⟨rfl, b1⟩; have hx1 := (b1.out.block _ (by simp)).trans (Hid.out HX); obtain ⟨d0, d1, d2, d3, d4⟩ := insB_cells hx1; have B1 := btrans (Hid.out HB) b1; have HX1 := hidm hx1; clear hx1 b1)
      | (go_at_call 19; refine (Hid.out HRf _).mono ?_; rintro e w2 ⟨rfl, b2⟩; have B2 := btrans B1 b2; clear b2)
      | (go_at_call 14; refine (awake_any _).mono ?_; rintro e w4 ⟨rfl, b4⟩))
    go_ret
    exact ⟨rfl, btrans B2 b4⟩

set_option maxRecDepth 100000 in
theorem lifted (os : Os) (started : os.Started) (H : Type) (enc : TypeId × Value → H) :
    ReturnsInHanded {} Try.checked os 7 .any (Rows.seqReckonsSpec.pre6 enc Try.prog Try.f7 Rows.seqReckonsRow.domain false) (Rows.seqReckonsSpec.post enc Try.prog Try.f7 false true false false) := by
  refine returnsInHanded_of_change (C := Try.checked) own started (by kernel_rfl) Try.func7
    (ChangeSpec.witness6 (enc := enc) (C := Try.checked) false ⟨#[], #[.agg #[.int .i64 0, .int .i64 0, .int .i64 0, .int .i64 0, .int .i64 0], .int .i64 0, .int .i64 0], []⟩ 8 (by kernel_rfl) (by kernel_rfl) (by kernel_rfl) (by kernel_rfl)) ?_
  intro W base args ds gs before hval0 hW hcnd _
  have hval : ∀ (j : Nat) t v, Try.f7.params[j]? = some t → args[j]? = some v → Value.okWide Try.prog W .any base t v := hval0
  have hW' := hW
  obtain ⟨p, q, hA0, hV, rfl, hfz, hnd⟩ := hW
  have hA : DataW.TrodAll enc Try.prog W 0 (fun _ => true) true Try.f7.params.toList args.toList ds p := hA0
  rw [Try.params7] at hA hval
  obtain ⟨v0, vs0, d0, ds0, p0, q0, hargs, rfl, rfl, h0, r0⟩ := trodAll_cons hA
  obtain ⟨v1, vs1, d1, ds1, p1, q1, rfl, rfl, rfl, h1, r1⟩ := trodAll_cons r0
  obtain ⟨v2, vs2, d2, ds2, p2, q2, rfl, rfl, rfl, h2, r2⟩ := trodAll_cons r1
  obtain ⟨rfl, rfl, rfl⟩ := trodAll_nil r2
  obtain rfl : args = #[v0, v1, v2] := by cases args; simp_all
  obtain ⟨rfl, rfl⟩ := trodVars_none hV
  obtain ⟨o0, a0, b0, c0, i0, rfl, rfl, rfl, wo0, wa0, wb0, wc0, wi0⟩ := open_agg5i Try.underlying34 (by kernel_rfl) cells34 Try.underlying3 rfl rfl rfl rfl rfl (hval 0 34 v0 rfl rfl) h0
  obtain ⟨x1, rfl, rfl, rfl, wx1⟩ := open_int Try.underlying3 (hval 1 3 v1 rfl rfl) h1
  obtain ⟨x2, rfl, rfl, rfl, wx2⟩ := open_int Try.underlying3 (hval 2 3 v2 rfl rfl) h2
  clear hA0 hval0
  refine (walk W o0 a0 b0 c0 i0 wo0 wa0 wb0 wc0 wi0 x1 wx1 x2 wx2).mono fun e W' ⟨he, bel⟩ => ?_
  subst he
  exact ⟨_, rfl, _, _, _, [], _, [], hW', trodAll_mk1 (shut_bool Try.underlying4 _), (trodAll_cons_mk (shut_agg5i Try.underlying34 (by kernel_rfl) cells34 Try.underlying3 rfl rfl rfl rfl rfl wo0 wa0 wb0 wc0 wi0) (trodAll_cons_mk (shut_int Try.underlying3 wx1) (trodAll_cons_mk (shut_int Try.underlying3 wx2) trodAll_mk0))), rfl, bel.out.frame _, fun h => by cases h⟩

theorem over : Rows.seqReckonsRow.holds Try.pinned (OpenSpec.ofChange Rows.seqReckonsSpec) :=
  OpenClaim.holds_of_wide 7 Try.f7 rfl rfl rfl rfl rfl rfl rfl ⟨rfl, rfl, rfl, rfl, rfl⟩ rfl rfl rfl rfl rfl (by kernel_rfl) Try.func7 (by kernel_rfl)
    (of_decide_eq_true (by kernel_rfl)) (by unfold Func.isWrapper; first | (rw [if_pos (by decide +kernel)]; kernel_rfl) | (rw [if_neg (by decide +kernel)]; exact ⟨rfl, rfl⟩))
    (fun os started H enc _ => lifted os started H enc)

theorem proved : Rows.SeqReckonsSaid :=
  over
#print axioms proved
end Go.Proofs.Ytmgpfhmodjmcdaa.seqReckons
