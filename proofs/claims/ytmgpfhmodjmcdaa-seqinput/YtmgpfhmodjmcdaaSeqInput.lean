/-
  The law 'SeqInput' of delayslotlaw07 returns true at all code, memory, input and fuel: code that does not stop by NoInput does the same with more input.
  Conditions: none.
-/
import Derived.Test.YtmgpfhmodjmcdaaRows
import Derived.WalkKit
import Derived.ProofKit
import Derived.OpenShut
import Derived.ShutString
import Derived.ChangeOld
import Derived.Below
import Derived.Carry
import Derived.Test.YtmgpfhmodjmcdaaSd
import Derived.Test.YtmgpfhmodjmcdaaApp7
import Derived.Test.YtmgpfhmodjmcdaaAwk7
namespace Go.Proofs.Ytmgpfhmodjmcdaa.seqInput
open Go.ChangeShapes Go.WideShapes Go.ChangeAt Go.RowKit
open Go.ChangeMaps (open_string shut_string)
set_option linter.unusedVariables false

theorem laidOut : laidOutB Try.prog = true := by kernel_rfl
theorem own : ownKnob Try.prog.godebug = none := by kernel_rfl
theorem ints_at {w : World} {ao : Option Addr} {cap : Nat} {X : List Int} (h : IntsC w (.slice ao X.length cap) X) : 0 < X.length → ∃ b o, ao = some ⟨b, o, none⟩ ∧ b < w.heap.size ∧ ∀ j, j < X.length → w.cell? ⟨b, o + j, none⟩ = some (.int .i64 (X[j]?.getD 0)) := by
  obtain ⟨ao', cap', e, _, h⟩ := h
  cases e
  exact h
theorem code_at {w : World} {ao : Option Addr} {cap : Nat} {X : List Ins} (h : Code w (.slice ao X.length cap) X) : 0 < X.length → ∃ b o, ao = some ⟨b, o, none⟩ ∧ b < w.heap.size ∧ CodeAt w b o X := by
  obtain ⟨ao', cap', e, h⟩ := h
  cases e
  exact h

set_option maxRecDepth 20000 in
set_option maxHeartbeats 2000000 in
theorem walk (w : World) (y0 : Value) (X0 : List Ins) (wy0 : Code w y0 X0) (x1 : Int) (wx1 : (Lit.int .i64 x1).wf = true) (y2 : Value) (X2 : List Int) (wy2 : IntsC w y2 X2) (vy2 : ∀ x ∈ X2, (Lit.int .i64 x).wf = true) (y3 : Value) (X3 : List Int) (wy3 : IntsC w y3 X3) (vy3 : ∀ x ∈ X3, (Lit.int .i64 x).wf = true) (x4 : Int) (wx4 : (Lit.int .i64 x4).wf = true) :
    Calls Try.prog 9 #[y0, .int .i64 x1, y2, y3, .int .i64 x4] w fun e w' => e = .returned (.bool true) ∧ Bel w w' := by
  obtain ⟨ao, ca, rfl, hc0⟩ := id wy0
  obtain ⟨ai, ci, rfl, hc2⟩ := id wy2
  obtain ⟨aj, cj, rfl, hc3⟩ := id wy3
  have HV := hidm wy0
  have HI := hidm wy2
  have HJ := hidm wy3
  clear wy0 wy2 wy3 hc0 hc2 hc3
  by_cases hs : smallB X0.length x1 X2.length x4 = true
  · obtain ⟨s1, s2, s3, s4⟩ := small_of hs
    by_cases hl : X3.length ≤ 100
    · have hl' : ¬ ((100 : Int) < X3.length) := by omega
      go_enter Try.func9, Try.ntmps9
      go_wp2_with (first
        | (go_at_call 13; refine (small_any _ _ _ _ _ _ _ _ _).mono ?_; rintro e w0 ⟨rfl, rfl⟩; rw [hs])
        | (go_at_call 16; refine (run_said X0 _ _ x1 x4 XX _ (Code.stay (Hid.out HV) B3) (intsC_of_row (Hid.out own3)) (by omega) (by omega)).mono ?_; rintro e w2 ⟨t', k', O', M', ao', ca', am', cm', hS', rfl, o2, m2, b2, lo2, lm2, lk2⟩; refine Hid.out ?_)
        | (at_builtin; refine append_ints _ rfl (.tmp 34) (.tmp 35) rfl w1.heap.size _ X2 X3 rfl (Hid.out own2) ⟨g2, c2, rfl⟩ aj cj rfl (ints_at ((Hid.out HJ).bel B5)) (by omega) (by omega) ?_; intro v3 w3 q1 q2 hg3; obtain ⟨g3, c3, rfl⟩ := q2; generalize hXX : X2 ++ X3 = XX at q1 ⊢; have lXX : XX.length ≤ 400 := (by rw [← hXX, List.length_append]; omega); have HXX := hidm hXX; clear hXX; have own3 := hidm q1; have B3 : Bel w0 w3 := B5.grown hg3 (fun k hk => (by cases hk; exact hg5)); have B13 : Bel w1 w3 := B15.grown hg3 (fun k hk => (by cases hk; exact hg6)); clear q1 hg3)
        | (at_builtin; refine append_ints _ rfl (.tmp 32) (.tmp 33) rfl w1.heap.size _ [] X2 rfl (own_none w1 3 1) ⟨_, _, rfl⟩ ai ci rfl (ints_at ((Hid.out HI).bel (b1.alloc _))) (by simp; omega) (by simp) ?_; intro v2 w5 q1 q2 hg2; obtain ⟨g2, c2, rfl⟩ := q2; rw [List.nil_append] at q1; have own2 := hidm q1; have hg6 : w1.heap.size ≤ g2 := (q1.lt g2 rfl).1; have hg5 : w0.heap.size ≤ g2 := Nat.le_trans b1.size hg6; have B15 : Bel w1 w5 := ((Bel.refl w1).alloc _).grown hg2 (fun k hk => (by cases hk; exact Nat.le_refl _)); have B5 : Bel w0 w5 := btrans b1 B15; have hz5 := B15.size; clear q1 hg2)
        | (go_at_call 16; refine (run_said X0 _ _ x1 x4 X2 _ (Hid.out HV) (Hid.out HI) (by omega) (by omega)).mono ?_; rintro e w1 ⟨t, k, O, M, ao1, ca1, am1, cm1, hS, rfl, o1, m1, b1, lo1, lm1, lk1⟩))
      rw [← Hid.out HXX] at hS'
      have hq := said_input hS hS'
      have B2 := btrans B3 b2
      have O1 := hidm (o1.bel (btrans B13 b2))
      have M1 := hidm (m1.bel (btrans B13 b2))
      have O2 := hidm o2
      have M2 := hidm m2
      clear hS hS' o1 m1 o2 m2 HV HI HJ b1 b2 B3 B13 B15 B5 own2 own3
      by_cases ht : t = 6
      · have ht' : (t == 6) = true := by simpa using ht
        clear ht hq
        refine hidm ?_
        go_wp2_with (first
          | (go_at_call 14; refine (awake_any _).mono ?_; rintro e w4 ⟨rfl, b4⟩))
        go_ret
        exact ⟨rfl, btrans ((B2.alloc _).alloc _) b4⟩
      · obtain ⟨rfl, rfl, rfl, rfl⟩ := hq ht
        have ht' : (t' == 6) = false := by simpa using ht
        clear ht hq
        refine hidm ?_
        go_wp2_with (first
          | (go_at_call 15; refine (equal_true t' k' _ _ _ _ O' M' _ ((Hid.out O1).bel (((Bel.refl w2).alloc _).alloc _)) ((Hid.out O2).bel (((Bel.refl w2).alloc _).alloc _)) ((Hid.out M1).bel (((Bel.refl w2).alloc _).alloc _)) ((Hid.out M2).bel (((Bel.refl w2).alloc _).alloc _)) (by omega) (by omega)).mono ?_; rintro e w4 ⟨rfl, b3⟩)
          | (go_at_call 14; refine (awake_any _).mono ?_; rintro e w6 ⟨rfl, b4⟩))
        go_ret
        exact ⟨rfl, btrans (btrans ((B2.alloc _).alloc _) b3) b4⟩
    · have hl' : (100 : Int) < X3.length := by omega
      go_enter Try.func9, Try.ntmps9
      go_wp2_with (first
        | (go_at_call 13; refine (small_any _ _ _ _ _ _ _ _ _).mono ?_; rintro e w0 ⟨rfl, rfl⟩; rw [hs])
        | (go_at_call 14; refine (awake_any _).mono ?_; rintro e w4 ⟨rfl, b4⟩))
      go_ret
      exact ⟨rfl, b4⟩
  · have hs' : smallB X0.length x1 X2.length x4 = false := by simpa using hs
    go_enter Try.func9, Try.ntmps9
    go_wp2_with (first
      | (go_at_call 13; refine (small_any _ _ _ _ _ _ _ _ _).mono ?_; rintro e w0 ⟨rfl, rfl⟩; rw [hs'])
      | (go_at_call 14; refine (awake_any _).mono ?_; rintro e w4 ⟨rfl, b4⟩))
    go_ret
    exact ⟨rfl, b4⟩

set_option maxRecDepth 100000 in
theorem lifted (os : Os) (started : os.Started) (H : Type) (enc : TypeId × Value → H) :
    ReturnsInHanded {} Try.checked os 9 .any (Rows.seqInputSpec.pre6 enc Try.prog Try.f9 Rows.seqInputRow.domain false) (Rows.seqInputSpec.post enc Try.prog Try.f9 false true false false) := by
  refine returnsInHanded_of_change (C := Try.checked) own started (by kernel_rfl) Try.func9
    (ChangeSpec.witness6 (enc := enc) (C := Try.checked) false ⟨#[], #[.slice none 0 0, .int .i64 0, .slice none 0 0, .slice none 0 0, .int .i64 0], []⟩ 8 (by kernel_rfl) (by kernel_rfl) (by kernel_rfl) (by kernel_rfl)) ?_
  intro W base args ds gs before hval0 hW hcnd _
  have hval : ∀ (j : Nat) t v, Try.f9.params[j]? = some t → args[j]? = some v → Value.okWide Try.prog W .any base t v := hval0
  have hW' := hW
  obtain ⟨p, q, hA0, hV, rfl, hfz, hnd⟩ := hW
  have hA : DataW.TrodAll enc Try.prog W 0 (fun _ => true) true Try.f9.params.toList args.toList ds p := hA0
  rw [Try.params9] at hA hval
  obtain ⟨v0, vs0, d0, ds0, p0, q0, hargs, rfl, rfl, h0, r0⟩ := trodAll_cons hA
  obtain ⟨v1, vs1, d1, ds1, p1, q1, rfl, rfl, rfl, h1, r1⟩ := trodAll_cons r0
  obtain ⟨v2, vs2, d2, ds2, p2, q2, rfl, rfl, rfl, h2, r2⟩ := trodAll_cons r1
  obtain ⟨v3, vs3, d3, ds3, p3, q3, rfl, rfl, rfl, h3, r3⟩ := trodAll_cons r2
  obtain ⟨v4, vs4, d4, ds4, p4, q4, rfl, rfl, rfl, h4, r4⟩ := trodAll_cons r3
  obtain ⟨rfl, rfl, rfl⟩ := trodAll_nil r4
  obtain rfl : args = #[v0, v1, v2, v3, v4] := by cases args; simp_all
  obtain ⟨rfl, rfl⟩ := trodVars_none hV
  have k0 := h0
  have lt0 : ∀ x ∈ p0, x.block < W.heap.size := by obtain ⟨m, hm⟩ := k0; exact DataW.trod_lt m _ _ _ hm
  obtain ⟨X0, wy0⟩ := open_code (hval 0 22 v0 rfl rfl) h0
  obtain ⟨x1, rfl, rfl, rfl, wx1⟩ := open_int Try.underlying3 (hval 1 3 v1 rfl rfl) h1
  have k2 := h2
  have lt2 : ∀ x ∈ p2, x.block < W.heap.size := by obtain ⟨m, hm⟩ := k2; exact DataW.trod_lt m _ _ _ hm
  obtain ⟨X2, wy2, vy2⟩ := open_intsC Try.underlying23 Try.underlying3 (by kernel_rfl) (hval 2 23 v2 rfl rfl) h2
  have k3 := h3
  have lt3 : ∀ x ∈ p3, x.block < W.heap.size := by obtain ⟨m, hm⟩ := k3; exact DataW.trod_lt m _ _ _ hm
  obtain ⟨X3, wy3, vy3⟩ := open_intsC Try.underlying23 Try.underlying3 (by kernel_rfl) (hval 3 23 v3 rfl rfl) h3
  obtain ⟨x4, rfl, rfl, rfl, wx4⟩ := open_int Try.underlying3 (hval 4 3 v4 rfl rfl) h4
  clear hA0 hval0
  refine (walk W v0 X0 wy0 x1 wx1 v2 X2 wy2 vy2 v3 X3 wy3 vy3 x4 wx4).mono fun e W' ⟨he, bel⟩ => ?_
  subst he
  exact ⟨_, rfl, _, _, _, [], _, [], hW', trodAll_mk1 (shut_bool Try.underlying4 _), (trodAll_cons_mk (Below.trod laidOut (by kernel_rfl) (of_decide_eq_true (by kernel_rfl)) k0 bel.out lt0) (trodAll_cons_mk (shut_int Try.underlying3 wx1) (trodAll_cons_mk (Below.trod laidOut (by kernel_rfl) (of_decide_eq_true (by kernel_rfl)) k2 bel.out lt2) (trodAll_cons_mk (Below.trod laidOut (by kernel_rfl) (of_decide_eq_true (by kernel_rfl)) k3 bel.out lt3) (trodAll_cons_mk (shut_int Try.underlying3 wx4) trodAll_mk0))))), rfl, bel.out.frame _, fun h => by cases h⟩

theorem over : Rows.seqInputRow.holds Try.pinned (OpenSpec.ofChange Rows.seqInputSpec) :=
  OpenClaim.holds_of_wide 9 Try.f9 rfl rfl rfl rfl rfl rfl rfl ⟨rfl, rfl, rfl, rfl, rfl⟩ rfl rfl rfl rfl rfl (by kernel_rfl) Try.func9 (by kernel_rfl)
    (of_decide_eq_true (by kernel_rfl)) (by unfold Func.isWrapper; first | (rw [if_pos (by decide +kernel)]; kernel_rfl) | (rw [if_neg (by decide +kernel)]; exact ⟨rfl, rfl⟩))
    (fun os started H enc _ => lifted os started H enc)

theorem proved : Rows.SeqInputSaid :=
  over
#print axioms proved
end Go.Proofs.Ytmgpfhmodjmcdaa.seqInput
