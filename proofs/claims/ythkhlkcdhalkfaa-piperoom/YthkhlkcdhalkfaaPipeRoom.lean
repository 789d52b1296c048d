/-
  The law 'PipeRoom' of delayslotlaw08 returns true at all code, memory, input and cycles: code that does not stop by Address does the same with more memory; that does not stop by NoInput, with more input.
  Conditions: none.
-/
import Derived.Test.YthkhlkcdhalkfaaRows
import Derived.WalkKit
import Derived.ProofKit
import Derived.OpenShut
import Derived.ShutString
import Derived.ChangeOld
import Derived.Below
import Derived.Carry
import Derived.Test.YthkhlkcdhalkfaaPy
import Derived.Test.YthkhlkcdhalkfaaApp7
namespace Go.Proofs.Ythkhlkcdhalkfaa.pipeRoom
open Go.ChangeShapes Go.WideShapes Go.ChangeAt Go.RowKit
open Go.ChangeMaps (open_string shut_string)
set_option linter.unusedVariables false

theorem laidOut : laidOutB Try.prog = true := by kernel_rfl
theorem own : ownKnob Try.prog.godebug = none := by kernel_rfl
theorem ints_at {w : World} {ao : Option Addr} {cap : Nat} {X : List Int} (h : IntsC w (.slice ao X.length cap) X) : 0 < X.length → ∃ b o, ao = some ⟨b, o, none⟩ ∧ b < w.heap.size ∧ ∀ j, j < X.length → w.cell? ⟨b, o + j, none⟩ = some (.int .i64 (X[j]?.getD 0)) := by
  obtain ⟨ao', cap', e, _, h⟩ := h
  cases e
  exact h
theorem code_at {w : World} {ao : Option Addr} {cap : Nat} {X : List Ins} (h : Code w (.slice ao X.length cap) X) : 0 < X.length → ∃ b o, ao = some ⟨b, o, none⟩ ∧ b < w.heap.size ∧ CodeAt w b o X := by
  obtain ⟨ao', cap', e, h⟩ := h
  cases e
  exact h
theorem heap_new1 (w : World) (o1 o2 : Obj) : ((w.alloc o1).alloc o2).heap[w.heap.size + 1]? = some o2 := by
  have := heap_new (w.alloc o1) o2
  rwa [show (w.alloc o1).heap.size = w.heap.size + 1 by simp] at this
theorem refRes_cells {W : World} {k : Nat} {t n : Int} {o m : Value} (h : W.heap[k]? = some (.cells #[.int .i64 t, .int .i64 n, o, m] 28)) : W.cell? ⟨k, 0, none⟩ = some (.int .i64 t) ∧ W.cell? ⟨k, 1, none⟩ = some (.int .i64 n) ∧ W.cell? ⟨k, 2, none⟩ = some o ∧ W.cell? ⟨k, 3, none⟩ = some m := ⟨cell_of h 0, cell_of h 1, cell_of h 2, cell_of h 3⟩
theorem own_none1 (V : World) (n : Nat) (h : V.heap.size = n) : (V.alloc (.cells #[] 3)).ownsRow n 3 1 (.slice (some ⟨n, 0, none⟩) 0 0) 0 [] := by
  subst h
  exact own_none V 3 1

set_option maxRecDepth 20000 in
set_option maxHeartbeats 2000000 in
theorem walk (w : World) (y0 : Value) (X0 : List Ins) (wy0 : Code w y0 X0) (x1 : Int) (wx1 : (Lit.int .i64 x1).wf = true) (y2 : Value) (X2 : List Int) (wy2 : IntsC w y2 X2) (vy2 : ∀ x ∈ X2, (Lit.int .i64 x).wf = true) (y3 : Value) (X3 : List Int) (wy3 : IntsC w y3 X3) (vy3 : ∀ x ∈ X3, (Lit.int .i64 x).wf = true) (x4 : Int) (wx4 : (Lit.int .i64 x4).wf = true) (x5 : Int) (wx5 : (Lit.int .u16 x5).wf = true) :
    Calls Try.prog 7 #[y0, .int .i64 x1, y2, y3, .int .i64 x4, .int .u16 x5] w fun e w' => e = .returned (.bool true) ∧ Bel w w' := by
  have hv5 := wf_u16 wx5
  obtain ⟨ao, ca, rfl, hc0⟩ := id wy0
  obtain ⟨ai, ci, rfl, hc2⟩ := id wy2
  obtain ⟨aj, cj, rfl, hc3⟩ := id wy3
  have HV := hidm wy0
  have HI := hidm wy2
  have HJ := hidm wy3
  clear wy0 wy2 wy3 hc0 hc2 hc3
  by_cases hs : smallB X0.length x1 X2.length x4 = true
  · obtain ⟨s1, s2, s3, s4⟩ := small_of hs
    by_cases hz : 0 ≤ x1 ∧ x1 ≤ 300
    · obtain ⟨z0, z1⟩ := hz
      by_cases hl : X3.length ≤ 100
      · have hl' : ¬ ((100 : Int) < X3.length) := by omega
        have hm0 : 0 ≤ x5 % 300 := by omega
        have hm1 : x5 % 300 < 300 := by omega
        go_enter Try.func7, Try.ntmps7
        go_wp2_with (first
          | (go_at_call 11; refine (small_any _ _ _ _ _ _ _ _ _).mono ?_; rintro e w0 ⟨rfl, rfl⟩; rw [hs])
          | (go_at_call 14; refine (prun_said X0 _ _ x1 x4 XX _ (Code.stay (Hid.out HV) B3) (intsC_of_row (Hid.out own3)) (by omega) (by omega)).mono ?_; rintro e w4 ⟨t3, k3, O3, M3, ao3, ca3, am3, cm3, hS3, rfl, o3, m3, b4, lo3, lm3, lk3, lk3'⟩; refine Hid.out ?_)
          | (at_builtin; refine append_ints _ rfl (.tmp 55) (.tmp 56) rfl (w2.heap.size + 1) _ X2 X3 rfl (Hid.out own2) ⟨g2, c2, rfl⟩ aj cj rfl (ints_at ((Hid.out HJ).bel B5)) (by omega) (by omega) ?_; intro v3 w3 q1 q2 hg3; obtain ⟨g3, c3, rfl⟩ := q2; generalize hXX : X2 ++ X3 = XX at q1 ⊢; have lXX : XX.length ≤ 400 := (by rw [← hXX, List.length_append]; omega); have HXX := hidm hXX; clear hXX; have own3 := hidm q1; have B3 : Bel w0 w3 := B5.grown hg3 (fun k hk => (by cases hk; exact hg5)); have B23 : Bel w2 w3 := B25.grown hg3 (fun k hk => (by cases hk; exact Nat.le_of_succ_le hg6)); have xb3 := hidm ((hg3.block w2.heap.size (by omega) (fun e => absurd (Option.some.inj e) (Nat.ne_of_lt hg6))).trans (Hid.out xb5)); clear q1 hg3)
          | (at_builtin; refine append_ints _ rfl (.tmp 53) (.tmp 54) rfl (w2.heap.size + 1) _ [] X2 rfl (own_none1 _ _ (by simp)) ⟨_, _, rfl⟩ ai ci rfl (ints_at ((Hid.out HI).bel ((B02.alloc _).alloc _))) (by simp; omega) (by simp) ?_; intro v2 w5 q1 q2 hg2; obtain ⟨g2, c2, rfl⟩ := q2; rw [List.nil_append] at q1; have own2 := hidm q1; have hg6 : w2.heap.size + 1 ≤ g2 := (q1.lt g2 rfl).1; have hs02 := B02.size; have hg5 : w0.heap.size ≤ g2 := (by omega); have B25 : Bel w2 w5 := (((Bel.refl w2).alloc _).alloc _).grown hg2 (fun k hk => (by cases hk; exact Nat.le_succ _)); have B5 : Bel w0 w5 := btrans B02 B25; have hz5 := hg2.size; simp at hz5; have xb5 := hidm ((hg2.block w2.heap.size (by simp; omega) (fun e => absurd (Option.some.inj e) (Nat.ne_of_lt (Nat.lt_succ_self _)))).trans (heap_old (heap_new w2 (resB t' k' (.slice ao' O'.length ca') (.slice am' M'.length cm'))))); clear q1 hg2)
          | (go_at_call 14; refine (prun_said X0 _ _ (x1 + x5 % 300) x4 X2 _ (Code.stay (Hid.out HV) (b1.alloc _)) (IntsC.bel (Hid.out HI) (b1.alloc _)) (by omega) (by omega)).mono ?_; rintro e w2 ⟨t', k', O', M', ao', ca', am', cm', hS', rfl, o2, m2, b2, lo2, lm2, lk2, lk2'⟩; have B12 : Bel w1 w2 := btrans ((Bel.refl w1).alloc _) b2; have B02 : Bel w0 w2 := btrans b1 B12; have xa2 := hidm ((b2.out.block w1.heap.size (by simp)).trans (heap_new w1 (resB t k (.slice ao1 O.length ca1) (.slice am1 M.length cm1)))); clear b2)
          | (go_at_call 14; refine (prun_said X0 _ _ x1 x4 X2 _ (Hid.out HV) (Hid.out HI) (by omega) (by omega)).mono ?_; rintro e w1 ⟨t, k, O, M, ao1, ca1, am1, cm1, hS, rfl, o1, m1, b1, lo1, lm1, lk1, lk1'⟩))
        rw [← Hid.out HXX] at hS3
        have e4 : x5 % 300 = ((x5 % 300).toNat : Int) := by omega
        have hS2 : SaidP X0 (x1 + ((x5 % 300).toNat : Int)) X2 x4 t' k' O' M' := by rw [← e4]; exact hS'
        have hqR := psaid_room (x5 % 300).toNat z0 z1 (by omega) hS hS2
        have hqI := psaid_input hS hS3
        have B24 := btrans B23 b4
        have B04 := btrans B02 B24
        have O1 := hidm (o1.bel (btrans B12 B24))
        have M1 := hidm (m1.bel (btrans B12 B24))
        have O2 := hidm (o2.bel B24)
        have M2 := hidm (m2.bel B24)
        have O3' := hidm o3
        have M3' := hidm m3
        have xa := (B24.out.block _ (lt_of_heap (Hid.out xa2))).trans (Hid.out xa2)
        have xb := (b4.out.block _ (lt_of_heap (Hid.out xb3))).trans (Hid.out xb3)
        obtain ⟨a0, a1, a2, a3⟩ := resB_cells xa
        obtain ⟨y0, y1, y2, y3⟩ := resB_cells xb
        have la := lt_of_heap xa
        have HXA := hidm xa
        have lb := lt_of_heap xb
        clear xa xb xa2 xb3 xb5 e4 hS2 hS hS' hS3 o1 m1 o2 m2 o3 m3 HV HI HJ HXX b1 b4 B02 B12 B23 B24 B25 B3 B5 own2 own3 lXX hg5 hg6 hz5 hs02
        by_cases t_3 : t = 3
        · have hne : t ≠ 6 := by omega
          have t3' : (t == 3) = true := by simpa using t_3
          have t6' : (t == 6) = false := by simpa using hne
          obtain ⟨e1, e2, e3, e4⟩ := hqI hne
          subst e3 e4
          obtain rfl : t = t3 := e1.symm
          obtain rfl : k = k3 := e2.symm
          clear hqR hqI hne t_3
          refine hidm ?_
          go_wp2_with (first
            | (go_at_call 13; refine (equal_true _ _ _ _ _ _ _ _ _ ((Hid.out O1).bel (((Bel.refl w4).alloc _).alloc _)) ((Hid.out O3').bel (((Bel.refl w4).alloc _).alloc _)) ((Hid.out M1).bel (((Bel.refl w4).alloc _).alloc _)) ((Hid.out M3').bel (((Bel.refl w4).alloc _).alloc _)) (by omega) (by omega)).mono ?_; rintro e w6 ⟨rfl, b6⟩)
            | (go_at_call 12; refine (awake_any _).mono ?_; rintro e w7 ⟨rfl, b7⟩))
          go_ret
          exact ⟨rfl, btrans (btrans ((B04.alloc _).alloc _) b6) b7⟩
        · have t3' : (t == 3) = false := by simpa using t_3
          obtain ⟨e1, e2, e3, e4⟩ := hqR t_3
          subst e3 e4
          obtain rfl : t = t' := e1.symm
          obtain rfl : k = k' := e2.symm
          by_cases t_6 : t = 6
          · have t6' : (t == 6) = true := by simpa using t_6
            clear hqR hqI t_6 t_3
            refine hidm ?_
            go_wp2_with (first
              | (go_at_call 13; refine (equal_true _ _ _ _ _ _ _ _ _ ((Hid.out O1).bel (((Bel.refl w4).alloc _).alloc _)) ((Hid.out O2).bel (((Bel.refl w4).alloc _).alloc _)) ((Hid.out M1).bel (((Bel.refl w4).alloc _).alloc _)) ((Hid.out M2).bel (((Bel.refl w4).alloc _).alloc _)) (by omega) (by omega)).mono ?_; rintro e w6 ⟨rfl, b6⟩; obtain ⟨g0, g1, g2, g3⟩ := resB_cells ((b6.out.block w1.heap.size (by simp; omega)).trans (heap_old (heap_old (Hid.out HXA)))))
              | (go_at_call 12; refine (awake_any _).mono ?_; rintro e w7 ⟨rfl, b7⟩))
            go_ret
            exact ⟨rfl, btrans (btrans ((B04.alloc _).alloc _) b6) b7⟩
          · have t6' : (t == 6) = false := by simpa using t_6
            obtain ⟨e1, e2, e3, e4⟩ := hqI t_6
            subst e3 e4
            obtain rfl : t = t3 := e1.symm
            obtain rfl : k = k3 := e2.symm
            clear hqR hqI t_6 t_3
            refine hidm ?_
            go_wp2_with (first
              | (go_at_call 13; refine (equal_true _ _ _ _ _ _ _ _ _ ((Hid.out O1).bel (btrans (((Bel.refl w4).alloc _).alloc _) b6)) ((Hid.out O3').bel (btrans (((Bel.refl w4).alloc _).alloc _) b6)) ((Hid.out M1).bel (btrans (((Bel.refl w4).alloc _).alloc _) b6)) ((Hid.out M3').bel (btrans (((Bel.refl w4).alloc _).alloc _) b6)) (by omega) (by omega)).mono ?_; rintro e w8 ⟨rfl, b8⟩)
              | (go_at_call 13; refine (equal_true _ _ _ _ _ _ _ _ _ ((Hid.out O1).bel (((Bel.refl w4).alloc _).alloc _)) ((Hid.out O2).bel (((Bel.refl w4).alloc _).alloc _)) ((Hid.out M1).bel (((Bel.refl w4).alloc _).alloc _)) ((Hid.out M2).bel (((Bel.refl w4).alloc _).alloc _)) (by omega) (by omega)).mono ?_; rintro e w6 ⟨rfl, b6⟩; obtain ⟨g0, g1, g2, g3⟩ := resB_cells ((b6.out.block w1.heap.size (by simp; omega)).trans (heap_old (heap_old (Hid.out HXA)))); obtain ⟨i0, i1, i2, i3⟩ := resB_cells ((b6.out.block w4.heap.size (by simp; omega)).trans (heap_old (heap_new w4 (resB t k (.slice ao3 O3.length ca3) (.slice am3 M3.length cm3))))); obtain ⟨j0, j1, j2, j3⟩ := refRes_cells ((b6.out.block (w4.heap.size + 1) (by simp)).trans (heap_new1 w4 _ _)))
              | (go_at_call 12; refine (awake_any _).mono ?_; rintro e w7 ⟨rfl, b7⟩))
            go_ret
            exact ⟨rfl, btrans (btrans (btrans ((B04.alloc _).alloc _) b6) b8) b7⟩
      · have hl' : (100 : Int) < X3.length := by omega
        go_enter Try.func7, Try.ntmps7
        go_wp2_with (first
          | (go_at_call 11; refine (small_any _ _ _ _ _ _ _ _ _).mono ?_; rintro e w0 ⟨rfl, rfl⟩; rw [hs])
          | (go_at_call 12; refine (awake_any _).mono ?_; rintro e w4 ⟨rfl, b4⟩))
        go_ret
        exact ⟨rfl, b4⟩
    · have hz' : (x1 < 0 ∧ True) ∨ (¬ x1 < 0 ∧ 300 < x1) := by
        rcases Int.lt_or_le x1 0 with h | h
        · exact .inl ⟨h, trivial⟩
        · exact .inr ⟨by omega, by omega⟩
      rcases hz' with ⟨hz1, _⟩ | ⟨hz1, hz2⟩
      all_goals
        go_enter Try.func7, Try.ntmps7
        go_wp2_with (first
          | (go_at_call 11; refine (small_any _ _ _ _ _ _ _ _ _).mono ?_; rintro e w' ⟨rfl, rfl⟩; rw [hs])
          | (go_at_call 12; refine (awake_any _).mono ?_; rintro e w4 ⟨rfl, b4⟩))
        go_ret
        exact ⟨rfl, b4⟩
  · have hs' : smallB X0.length x1 X2.length x4 = false := by simpa using hs
    go_enter Try.func7, Try.ntmps7
    go_wp2_with (first
      | (go_at_call 11; refine (small_any _ _ _ _ _ _ _ _ _).mono ?_; rintro e w' ⟨rfl, rfl⟩; rw [hs'])
      | (go_at_call 12; refine (awake_any _).mono ?_; rintro e w4 ⟨rfl, b4⟩))
    go_ret
    exact ⟨rfl, b4⟩

set_option maxRecDepth 100000 in
theorem lifted (os : Os) (started : os.Started) (H : Type) (enc : TypeId × Value → H) :
    ReturnsInHanded {} Try.checked os 7 .any (Rows.pipeRoomSpec.pre6 enc Try.prog Try.f7 Rows.pipeRoomRow.domain false) (Rows.pipeRoomSpec.post enc Try.prog Try.f7 false true false false) := by
  refine returnsInHanded_of_change (C := Try.checked) own started (by kernel_rfl) Try.func7
    (ChangeSpec.witness6 (enc := enc) (C := Try.checked) false ⟨#[], #[.slice none 0 0, .int .i64 0, .slice none 0 0, .slice none 0 0, .int .i64 0, .int .u16 0], []⟩ 8 (by kernel_rfl) (by kernel_rfl) (by kernel_rfl) (by kernel_rfl)) ?_
  intro W base args ds gs before hval0 hW hcnd _
  have hval : ∀ (j : Nat) t v, Try.f7.params[j]? = some t → args[j]? = some v → Value.okWide Try.prog W .any base t v := hval0
  have hW' := hW
  obtain ⟨p, q, hA0, hV, rfl, hfz, hnd⟩ := hW
  have hA : DataW.TrodAll enc Try.prog W 0 (fun _ => true) true Try.f7.params.toList args.toList ds p := hA0
  rw [Try.params7] at hA hval
  obtain ⟨v0, vs0, d0, ds0, p0, q0, hargs, rfl, rfl, h0, r0⟩ := trodAll_cons hA
  obtain ⟨v1, vs1, d1, ds1, p1, q1, rfl, rfl, rfl, h1, r1⟩ := trodAll_cons r0
  obtain ⟨v2, vs2, d2, ds2, p2, q2, rfl, rfl, rfl, h2, r2⟩ := trodAll_cons r1
  obtain ⟨v3, vs3, d3, ds3, p3, q3, rfl, rfl, rfl, h3, r3⟩ := trodAll_cons r2
  obtain ⟨v4, vs4, d4, ds4, p4, q4, rfl, rfl, rfl, h4, r4⟩ := trodAll_cons r3
  obtain ⟨v5, vs5, d5, ds5, p5, q5, rfl, rfl, rfl, h5, r5⟩ := trodAll_cons r4
  obtain ⟨rfl, rfl, rfl⟩ := trodAll_nil r5
  obtain rfl : args = #[v0, v1, v2, v3, v4, v5] := by cases args; simp_all
  obtain ⟨rfl, rfl⟩ := trodVars_none hV
  have k0 := h0
  have lt0 : ∀ x ∈ p0, x.block < W.heap.size := by obtain ⟨m, hm⟩ := k0; exact DataW.trod_lt m _ _ _ hm
  obtain ⟨X0, wy0⟩ := open_code (hval 0 22 v0 rfl rfl) h0
  obtain ⟨x1, rfl, rfl, rfl, wx1⟩ := open_int Try.underlying3 (hval 1 3 v1 rfl rfl) h1
  have k2 := h2
  have lt2 : ∀ x ∈ p2, x.block < W.heap.size := by obtain ⟨m, hm⟩ := k2; exact DataW.trod_lt m _ _ _ hm
  obtain ⟨X2, wy2, vy2⟩ := open_intsC Try.underlying23 Try.underlying3 (by kernel_rfl) (hval 2 23 v2 rfl rfl) h2
  have k3 := h3
  have lt3 : ∀ x ∈ p3, x.block < W.heap.size := by obtain ⟨m, hm⟩ := k3; exact DataW.trod_lt m _ _ _ hm
  obtain ⟨X3, wy3, vy3⟩ := open_intsC Try.underlying23 Try.underlying3 (by kernel_rfl) (hval 3 23 v3 rfl rfl) h3
  obtain ⟨x4, rfl, rfl, rfl, wx4⟩ := open_int Try.underlying3 (hval 4 3 v4 rfl rfl) h4
  obtain ⟨x5, rfl, rfl, rfl, wx5⟩ := open_int Try.underlying37 (hval 5 37 v5 rfl rfl) h5
  clear hA0 hval0
  refine (walk W v0 X0 wy0 x1 wx1 v2 X2 wy2 vy2 v3 X3 wy3 vy3 x4 wx4 x5 wx5).mono fun e W' ⟨he, bel⟩ => ?_
  subst he
  exact ⟨_, rfl, _, _, _, [], _, [], hW', trodAll_mk1 (shut_bool Try.underlying4 _), (trodAll_cons_mk (Below.trod laidOut (by kernel_rfl) (of_decide_eq_true (by kernel_rfl)) k0 bel.out lt0) (trodAll_cons_mk (shut_int Try.underlying3 wx1) (trodAll_cons_mk (Below.trod laidOut (by kernel_rfl) (of_decide_eq_true (by kernel_rfl)) k2 bel.out lt2) (trodAll_cons_mk (Below.trod laidOut (by kernel_rfl) (of_decide_eq_true (by kernel_rfl)) k3 bel.out lt3) (trodAll_cons_mk (shut_int Try.underlying3 wx4) (trodAll_cons_mk (shut_int Try.underlying37 wx5) trodAll_mk0)))))), rfl, bel.out.frame _, fun h => by cases h⟩

theorem over : Rows.pipeRoomRow.holds Try.pinned (OpenSpec.ofChange Rows.pipeRoomSpec) :=
  OpenClaim.holds_of_wide 7 Try.f7 rfl rfl rfl rfl rfl rfl rfl ⟨rfl, rfl, rfl, rfl, rfl⟩ rfl rfl rfl rfl rfl (by kernel_rfl) Try.func7 (by kernel_rfl)
    (of_decide_eq_true (by kernel_rfl)) (by unfold Func.isWrapper; first | (rw [if_pos (by decide +kernel)]; kernel_rfl) | (rw [if_neg (by decide +kernel)]; exact ⟨rfl, rfl⟩))
    (fun os started H enc _ => lifted os started H enc)

theorem proved : Rows.PipeRoomSaid :=
  over
#print axioms proved
end Go.Proofs.Ythkhlkcdhalkfaa.pipeRoom
