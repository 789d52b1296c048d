/-
  The law 'SeqMore' of delayslotlaw07 returns true at all code, memory, input and fuel: with more fuel a machine does the same, and more.
  Conditions: none.
-/
import Derived.Test.YtmgpfhmodjmcdaaRows
import Derived.WalkKit
import Derived.ProofKit
import Derived.OpenShut
import Derived.ShutString
import Derived.ChangeOld
import Derived.Below
import Derived.Carry
import Derived.Test.YtmgpfhmodjmcdaaSd
import Derived.Test.YtmgpfhmodjmcdaaAwk7
namespace Go.Proofs.Ytmgpfhmodjmcdaa.seqMore
open Go.ChangeShapes Go.WideShapes Go.ChangeAt Go.RowKit
open Go.ChangeMaps (open_string shut_string)
set_option linter.unusedVariables false

theorem laidOut : laidOutB Try.prog = true := by kernel_rfl
theorem own : ownKnob Try.prog.godebug = none := by kernel_rfl
theorem prefix_at {O P : List Int} (h : O <+: P) (k : Nat) (hk : k < O.length) : P[k]?.getD 0 = O[k]?.getD 0 := by
  obtain ⟨Q, rfl⟩ := h
  rw [List.getElem?_append_left hk]
theorem gen2 {p : World → Prop} (w2 : World) (t n t' n' : Int) (o m o' m' : Value) (h : ∀ V2 : World, (V2.cell? ⟨w2.heap.size, 2, none⟩ = some o ∧ V2.cell? ⟨w2.heap.size + 1, 2, none⟩ = some o' ∧ Bel w2 V2 ∧ w2.heap.size < V2.heap.size ∧ w2.heap.size + 1 < V2.heap.size) → p V2) : p ((w2.alloc (resB t n o m)).alloc (resB t' n' o' m')) := by
  refine h _ ?_
  have e1 : (w2.alloc (resB t n o m)).heap.size = w2.heap.size + 1 := by simp
  have hx1 := heap_old (o := resB t' n' o' m') (heap_new w2 (resB t n o m))
  have hx2 := heap_new (w2.alloc (resB t n o m)) (resB t' n' o' m')
  rw [e1] at hx2
  exact ⟨(resB_cells hx1).2.2.1, (resB_cells hx2).2.2.1, ((Bel.refl w2).alloc _).alloc _, lt_of_heap hx1, lt_of_heap hx2⟩

set_option maxRecDepth 20000 in
set_option maxHeartbeats 2000000 in
theorem walk (w : World) (y0 : Value) (X0 : List Ins) (wy0 : Code w y0 X0) (x1 : Int) (wx1 : (Lit.int .i64 x1).wf = true) (y2 : Value) (X2 : List Int) (wy2 : IntsC w y2 X2) (vy2 : ∀ x ∈ X2, (Lit.int .i64 x).wf = true) (x3 : Int) (wx3 : (Lit.int .i64 x3).wf = true) (x4 : Int) (wx4 : (Lit.int .i64 x4).wf = true) :
    Calls Try.prog 4 #[y0, .int .i64 x1, y2, .int .i64 x3, .int .i64 x4] w fun e w' => e = .returned (.bool true) ∧ Bel w w' := by
  obtain ⟨ao, ca, rfl, hc0⟩ := id wy0
  obtain ⟨ai, ci, rfl, hc2⟩ := id wy2
  have HV := hidm wy0
  have HI := hidm wy2
  clear wy0 wy2 hc0 hc2
  by_cases hs : smallB X0.length x1 X2.length x3 = true
  · obtain ⟨s1, s2, s3, s4⟩ := small_of hs
    by_cases hs2 : smallB X0.length x1 X2.length x4 = true
    · obtain ⟨_, _, _, s5⟩ := small_of hs2
      by_cases hfm : x3 ≤ x4
      · have hfm' : ¬ (x4 < x3) := by omega
        go_enter Try.func4, Try.ntmps4
        go_wp2_with (first
          | (go_at_call 13; refine (small_any _ _ _ _ _ _ _ _ _).mono ?_; rintro e w0 ⟨rfl, rfl⟩; first | rw [hs] | rw [hs2])
          | (go_at_call 16; refine (run_said X0 _ _ x1 x4 X2 _ (Code.stay (Hid.out HV) b1) (IntsC.bel (Hid.out HI) b1) (by omega) (by omega)).mono ?_; rintro e w2 ⟨t', k', O', M', ao', ca', am', cm', hS', rfl, o2, m2, b2, lo2, lm2, lk2⟩; refine Hid.out ?_)
          | (go_at_call 16; refine (run_said X0 _ _ x1 x3 X2 _ (Hid.out HV) (Hid.out HI) (by omega) (by omega)).mono ?_; rintro e w1 ⟨t, k, O, M, ao1, ca1, am1, cm1, hS, rfl, o1, m1, b1, lo1, lm1, lk1⟩))
        have hq := said_more hfm hS hS'
        have B2 := btrans b1 b2
        have O1 := hidm (o1.bel b2)
        have M1 := hidm (m1.bel b2)
        have O2 := hidm o2
        have M2 := hidm m2
        clear hS hS' o1 m1 o2 m2 HV HI b1 b2
        by_cases ht : t = 0
        · obtain ⟨q1, q2, q3⟩ := hq.2 ht
          have ht' : (t == 0) = true := by simpa using ht
          have hlen := q2.length_le
          have hlen' : ¬ ((O'.length : Int) < O.length) := by omega
          have hkk : ¬ ((k' : Int) < k) := by omega
          have q4 : (k : Int) = max x3 0 ∨ (O'.length = 0 ∧ k' = 0) := by
            rcases q3 with q3 | ⟨q3, q4⟩
            · left; omega
            · right; rw [q3]; exact ⟨rfl, q4⟩
          have HQ := hidm (fun j hj => prefix_at q2 j hj)
          clear ht hq q2 q3
          have hcase : (x3 < 0 ∧ k = 0) ∨ (x3 < 0 ∧ ¬ (0 < (O'.length : Int) + k')) ∨ (x3 = (k : Int) ∧ True) ∨ (¬ x3 < 0 ∧ ¬ (0 < (O'.length : Int) + k')) := by
            rcases q4 with q4 | ⟨q4, q5⟩
            · rcases Int.lt_or_le x3 0 with hx | hx
              · exact .inl ⟨hx, by omega⟩
              · exact .inr (.inr (.inl ⟨by omega, trivial⟩))
            · rcases Int.lt_or_le x3 0 with hx | hx
              · exact .inr (.inl ⟨hx, by omega⟩)
              · exact .inr (.inr (.inr ⟨by omega, by omega⟩))
          clear q4
          refine hidm ?_
          rcases hcase with ⟨hx, rfl⟩ | ⟨hx, hc⟩ | ⟨rfl, hc⟩ | ⟨hx, hc⟩
          all_goals
            go_wp2_with fail
            all_goals
              refine gen2 (p := fun V => Code.wp _ _ _ _ V) w2 _ _ _ _ _ _ _ _ ?_
              rintro V2 ⟨p1, p2, hV, l1, l2⟩
              go_loopw [86] (fun i wr => ∃ j : Nat, j ≤ O.length ∧ i = .int .i64 j ∧ Bel V2 wr) (fun i _ => O.length - (intOf i).toNat)
              case atStart => exact ⟨0, Nat.zero_le _, rfl, Bel.refl _⟩
              case round =>
                obtain ⟨j, hj, rfl, hB⟩ := hrel
                rename World => wr
                have q1 := ((bcell hB).1 _ _ l1).trans p1
                have q2 := ((bcell hB).1 _ _ l2).trans p2
                by_cases hlt : j < O.length
                · obtain ⟨ax, cx, ex, hva⟩ := Hid.out O1
                  obtain ⟨ay, cy, ey, hvb⟩ := Hid.out O2
                  injection ex with ex1 ex2 ex3
                  injection ey with ey1 ey2 ey3
                  obtain ⟨b, o, ez, hb, hcc⟩ := hva (by omega)
                  obtain ⟨b', o', ez', hb', hcc'⟩ := hvb (by omega)
                  have hcx := ((bcell (btrans hV hB)).1 b (o + j) hb).trans (hcc j hlt)
                  have hcy := ((bcell (btrans hV hB)).1 b' (o' + j) hb').trans (hcc' j (by omega))
                  rw [Hid.out HQ j hlt] at hcy
                  rw [ex1, ez] at q1
                  rw [ey1, ez'] at q2
                  clear hva hvb hcc hcc' p1 p2 ex1 ex2 ex3 ey1 ey2 ey3 ez ez'
                  have hlt' : j < O'.length := by omega
                  generalize O[j]?.getD 0 = z at hcx hcy
                  go_wp2
                  go_quiet (fail)
                  go_wp2
                  go_roundw
                  case rel => exact ⟨j + 1, by omega, by simp, btrans hB (Bel.drewN _ _)⟩
                  case measure => simp [intOf]; omega
                · clear p1 p2 q1 q2
                  go_wp2_with (go_at_call 14; refine (awake_any _).mono ?_; rintro e w4 ⟨rfl, b4⟩)
                  go_ret
                  exact ⟨rfl, btrans (btrans (btrans B2 hV) hB) b4⟩
        · obtain ⟨rfl, rfl, rfl, rfl⟩ := hq.1 ht
          have ht' : (t' == 0) = false := by simpa using ht
          clear ht hq
          refine hidm ?_
          go_wp2_with (first
            | (go_at_call 15; refine (equal_true t' k' _ _ _ _ O' M' _ ((Hid.out O1).bel (((Bel.refl w2).alloc _).alloc _)) ((Hid.out O2).bel (((Bel.refl w2).alloc _).alloc _)) ((Hid.out M1).bel (((Bel.refl w2).alloc _).alloc _)) ((Hid.out M2).bel (((Bel.refl w2).alloc _).alloc _)) (by omega) (by omega)).mono ?_; rintro e w3 ⟨rfl, b3⟩)
            | (go_at_call 14; refine (awake_any _).mono ?_; rintro e w4 ⟨rfl, b4⟩))
          go_ret
          exact ⟨rfl, btrans (btrans ((B2.alloc _).alloc _) b3) b4⟩
      · have hfm' : x4 < x3 := by omega
        go_enter Try.func4, Try.ntmps4
        go_wp2_with (first
          | (go_at_call 13; refine (small_any _ _ _ _ _ _ _ _ _).mono ?_; rintro e w0 ⟨rfl, rfl⟩; first | rw [hs] | rw [hs2])
          | (go_at_call 14; refine (awake_any _).mono ?_; rintro e w4 ⟨rfl, b4⟩))
        go_ret
        exact ⟨rfl, b4⟩
    · have hs2' : smallB X0.length x1 X2.length x4 = false := by simpa using hs2
      go_enter Try.func4, Try.ntmps4
      go_wp2_with (first
        | (go_at_call 13; refine (small_any _ _ _ _ _ _ _ _ _).mono ?_; rintro e w0 ⟨rfl, rfl⟩; first | rw [hs] | rw [hs2'])
        | (go_at_call 14; refine (awake_any _).mono ?_; rintro e w4 ⟨rfl, b4⟩))
      go_ret
      exact ⟨rfl, b4⟩
  · have hs' : smallB X0.length x1 X2.length x3 = false := by simpa using hs
    go_enter Try.func4, Try.ntmps4
    go_wp2_with (first
      | (go_at_call 13; refine (small_any _ _ _ _ _ _ _ _ _).mono ?_; rintro e w' ⟨rfl, rfl⟩; rw [hs'])
      | (go_at_call 14; refine (awake_any _).mono ?_; rintro e w4 ⟨rfl, b4⟩))
    go_ret
    exact ⟨rfl, b4⟩

set_option maxRecDepth 100000 in
theorem lifted (os : Os) (started : os.Started) (H : Type) (enc : TypeId × Value → H) :
    ReturnsInHanded {} Try.checked os 4 .any (Rows.seqMoreSpec.pre6 enc Try.prog Try.f4 Rows.seqMoreRow.domain false) (Rows.seqMoreSpec.post enc Try.prog Try.f4 false true false false) := by
  refine returnsInHanded_of_change (C := Try.checked) own started (by kernel_rfl) Try.func4
    (ChangeSpec.witness6 (enc := enc) (C := Try.checked) false ⟨#[], #[.slice none 0 0, .int .i64 0, .slice none 0 0, .int .i64 0, .int .i64 0], []⟩ 8 (by kernel_rfl) (by kernel_rfl) (by kernel_rfl) (by kernel_rfl)) ?_
  intro W base args ds gs before hval0 hW hcnd _
  have hval : ∀ (j : Nat) t v, Try.f4.params[j]? = some t → args[j]? = some v → Value.okWide Try.prog W .any base t v := hval0
  have hW' := hW
  obtain ⟨p, q, hA0, hV, rfl, hfz, hnd⟩ := hW
  have hA : DataW.TrodAll enc Try.prog W 0 (fun _ => true) true Try.f4.params.toList args.toList ds p := hA0
  rw [Try.params4] at hA hval
  obtain ⟨v0, vs0, d0, ds0, p0, q0, hargs, rfl, rfl, h0, r0⟩ := trodAll_cons hA
  obtain ⟨v1, vs1, d1, ds1, p1, q1, rfl, rfl, rfl, h1, r1⟩ := trodAll_cons r0
  obtain ⟨v2, vs2, d2, ds2, p2, q2, rfl, rfl, rfl, h2, r2⟩ := trodAll_cons r1
  obtain ⟨v3, vs3, d3, ds3, p3, q3, rfl, rfl, rfl, h3, r3⟩ := trodAll_cons r2
  obtain ⟨v4, vs4, d4, ds4, p4, q4, rfl, rfl, rfl, h4, r4⟩ := trodAll_cons r3
  obtain ⟨rfl, rfl, rfl⟩ := trodAll_nil r4
  obtain rfl : args = #[v0, v1, v2, v3, v4] := by cases args; simp_all
  obtain ⟨rfl, rfl⟩ := trodVars_none hV
  have k0 := h0
  have lt0 : ∀ x ∈ p0, x.block < W.heap.size := by obtain ⟨m, hm⟩ := k0; exact DataW.trod_lt m _ _ _ hm
  obtain ⟨X0, wy0⟩ := open_code (hval 0 22 v0 rfl rfl) h0
  obtain ⟨x1, rfl, rfl, rfl, wx1⟩ := open_int Try.underlying3 (hval 1 3 v1 rfl rfl) h1
  have k2 := h2
  have lt2 : ∀ x ∈ p2, x.block < W.heap.size := by obtain ⟨m, hm⟩ := k2; exact DataW.trod_lt m _ _ _ hm
  obtain ⟨X2, wy2, vy2⟩ := open_intsC Try.underlying23 Try.underlying3 (by kernel_rfl) (hval 2 23 v2 rfl rfl) h2
  obtain ⟨x3, rfl, rfl, rfl, wx3⟩ := open_int Try.underlying3 (hval 3 3 v3 rfl rfl) h3
  obtain ⟨x4, rfl, rfl, rfl, wx4⟩ := open_int Try.underlying3 (hval 4 3 v4 rfl rfl) h4
  clear hA0 hval0
  refine (walk W v0 X0 wy0 x1 wx1 v2 X2 wy2 vy2 x3 wx3 x4 wx4).mono fun e W' ⟨he, bel⟩ => ?_
  subst he
  exact ⟨_, rfl, _, _, _, [], _, [], hW', trodAll_mk1 (shut_bool Try.underlying4 _), (trodAll_cons_mk (Below.trod laidOut (by kernel_rfl) (of_decide_eq_true (by kernel_rfl)) k0 bel.out lt0) (trodAll_cons_mk (shut_int Try.underlying3 wx1) (trodAll_cons_mk (Below.trod laidOut (by kernel_rfl) (of_decide_eq_true (by kernel_rfl)) k2 bel.out lt2) (trodAll_cons_mk (shut_int Try.underlying3 wx3) (trodAll_cons_mk (shut_int Try.underlying3 wx4) trodAll_mk0))))), rfl, bel.out.frame _, fun h => by cases h⟩

theorem over : Rows.seqMoreRow.holds Try.pinned (OpenSpec.ofChange Rows.seqMoreSpec) :=
  OpenClaim.holds_of_wide 4 Try.f4 rfl rfl rfl rfl rfl rfl rfl ⟨rfl, rfl, rfl, rfl, rfl⟩ rfl rfl rfl rfl rfl (by kernel_rfl) Try.func4 (by kernel_rfl)
    (of_decide_eq_true (by kernel_rfl)) (by unfold Func.isWrapper; first | (rw [if_pos (by decide +kernel)]; kernel_rfl) | (rw [if_neg (by decide +kernel)]; exact ⟨rfl, rfl⟩))
    (fun os started H enc _ => lifted os started H enc)

theorem proved : Rows.SeqMoreSaid :=
  over
#print axioms proved
end Go.Proofs.Ytmgpfhmodjmcdaa.seqMore
