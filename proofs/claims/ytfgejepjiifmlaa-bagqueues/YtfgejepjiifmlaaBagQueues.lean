/-
  The law 'BagQueues' of delayslotlaw05 returns true at every input: whatever is pushed and popped, what is told, and what is there, is what the document says.
  Conditions: none.
-/
import Derived.Test.YtfgejepjiifmlaaRows
import Derived.WalkKit
import Derived.ProofKit
import Derived.OpenShut
import Derived.ShutString
import Derived.ChangeOld
import Derived.Below
import Derived.Carry
import Derived.Test.YtfgejepjiifmlaaMix5
namespace Go.Proofs.Ytfgejepjiifmlaa.bagQueues
open Go.ChangeShapes Go.WideShapes Go.ChangeAt Go.RowKit
open Go.ChangeMaps (open_string shut_string)
set_option linter.unusedVariables false

theorem laidOut : laidOutB Try.prog = true := by kernel_rfl
theorem own : ownKnob Try.prog.godebug = none := by kernel_rfl

set_option maxRecDepth 20000 in
set_option maxHeartbeats 2000000 in
theorem walk (w : World) (y0 : Value) (X0 : List Int) (wy0 : Ints .i64 w y0 X0) (vy0 : ∀ x ∈ X0, (Lit.int .i64 x).wf = true) :
    Calls Try.prog 3 #[y0] w fun e w' => e = .returned (.bool true) ∧ Bel w w' := by
  have q0 := IsQ.new w.heap.size w (Nat.le_refl _)
  have B0 : Below w.heap.size w (w.alloc (.cells #[.pointer none, .pointer none, .int .i64 0] 25)) := (Below.refl _ _).alloc (Nat.le_refl _) _
  obtain ⟨i0, hi, hz0, hz1, hz2⟩ := info_parts intInfo
  obtain ⟨ao, cap, rfl, hv⟩ := wy0
  go_enter Try.func3, Try.ntmps3
  go_wp2_with fail
  go_loopw [4, 5] (fun u i wr => ∃ (k : Nat) (ks : List (Nat × Int)), i = .int .i64 k ∧ k ≤ min X0.length 100 ∧ ks.length ≤ k ∧ wr.ownsRow w.heap.size 3 1 u ks.length ((ks.map Prod.snd).map (Value.int .i64)) ∧ IsQ w.heap.size wr w.heap.size ks ∧ Bel w wr) (fun _ i _ => 100 - (intOf i).toNat)
  case atStart => exact ⟨0, [], rfl, Nat.zero_le _, Nat.le_refl _, World.ownsRow_nil _ _ _ _, q0, B0⟩
  case round =>
    obtain ⟨k, ks, rfl, hk, hlk, hrow, q, hB⟩ := hrel
    by_cases hlt : k < min X0.length 100
    · obtain ⟨b, o, rfl, hb, hc⟩ := hv (by omega)
      have hck := hc k (by omega)
      have hcx := ((bcell hB).1 b (o + k) hb).trans hck
      have l1 : (k : Int) < X0.length := by omega
      have l2 : k < X0.length := by omega
      have l3 : (k : Int) < 100 := by omega
      generalize X0[k]?.getD 0 = z at hck hcx
      clear hc hv
      have hI := ints_ks hrow
      obtain ⟨lo, lcap, hu⟩ := slice_of hrow
      subst hu
      by_cases hz : z < 0
      · cases ks with
        | nil =>
          go_wp2_with (first
            | (go_at_call 9; refine (pop_nil w.heap.size w.heap.size _ q).mono ?_; rintro e w2 ⟨rfl, e2⟩; subst e2)
            | (go_at_call 10; refine (without_any _ [] _ hI (by simp)).mono ?_; rintro e w3 ⟨v3, rfl, r3, b3⟩; have q3 := q.bel b3)
            | (go_at_call 12; refine (queued_any w.heap.size w.heap.size [] _ q3 (by simp)).mono ?_; rintro e w4 ⟨v4, rfl, r4, b4⟩; have q4 := q3.bel b4; have r34 := row_bel r3 b4; obtain ⟨lo3, lcap3, hv3⟩ := slice_of r34; subst hv3)
            | (go_at_call 13; refine (same_any _ _ [] [] _ (ints_of_row r4) (ints_of_row r34) (by simp)).mono ?_; rintro e w5 ⟨rfl, b5⟩; have q5 := q4.bel b5; have r5 := row_bel r34 b5)
            | (go_at_call 14; refine (len_any w.heap.size w.heap.size [] _ q5).mono ?_; rintro e w6 ⟨rfl, e6⟩; subst e6))
          go_roundw
          case rel => exact ⟨k + 1, [], by simp, by omega, by simp, row_base r5 hB.size, q5, btrans hB (btrans b3 (btrans b4 b5))⟩
          case measure => simp only [intOf]; omega
        | cons y s =>
          obtain ⟨ky, xy⟩ := y
          have hsl : s.length < 1000 := by simp only [List.length_cons] at hlk; omega
          have hpos : (0 : Int) < (s.length : Int) + 1 := by omega
          have hne0 : ((s.length : Int) + 1 == 0) = false := by simp; omega
          have hne1 : (xy != xy) = false := by simp
          have hss : sameB (s.map Prod.snd) (s.map Prod.snd) = true := sameB_self _
          have hnl : ((s.length : Int) != (s.length : Int)) = false := by simp
          go_wp2_with (first
            | (go_at_call 9; refine (pop_cons w.heap.size w.heap.size ky xy s _ (by omega) q).mono ?_; rintro e w2 ⟨rfl, q2, k2⟩; have B2 : Bel w w2 := hB.out.trans (QS.below hB.size k2); have r2 := row_of_queue hrow k2; have hI2 := ints_ks r2; obtain ⟨g2, cap2, hg2⟩ := row_succ r2; injection hg2 with e1 e2 e3; subst e1; subst e3; have hcl : w2.cell? ⟨g2, 0, none⟩ = some (.int .i64 xy) := r2.cells (g := g2) rfl 0 _ rfl)
            | (go_at_call 10; refine (without_any _ (((ky, xy) :: s).map Prod.snd) _ hI2 (by simp; omega)).mono ?_; rintro e w3 ⟨v3, rfl, r3', b3⟩; have r3 : w3.ownsRow w2.heap.size 3 1 v3 s.length ((s.map Prod.snd).map (Value.int .i64)) := (by simpa using r3'); clear r3'; have q3 := q2.bel b3)
            | (go_at_call 12; refine (queued_any w.heap.size w.heap.size s _ q3 (by omega)).mono ?_; rintro e w4 ⟨v4, rfl, r4, b4⟩; have q4 := q3.bel b4; have r34 := row_bel r3 b4; obtain ⟨lo3, lcap3, hv3⟩ := slice_of r34; subst hv3)
            | (go_at_call 13; refine (same_any _ _ (s.map Prod.snd) (s.map Prod.snd) _ (ints_ks r4) (ints_ks r34) (by simp; omega)).mono ?_; rintro e w5 ⟨rfl, b5⟩; have q5 := q4.bel b5; have r5 := row_bel r34 b5)
            | (go_at_call 14; refine (len_any w.heap.size w.heap.size s _ q5).mono ?_; rintro e w6 ⟨rfl, e6⟩; subst e6))
          go_roundw
          case rel => exact ⟨k + 1, s, by simp, by omega, by simp only [List.length_cons] at hlk; omega, row_base r5 B2.size, q5, btrans B2 (btrans b3 (btrans b4 b5))⟩
          case measure => simp only [intOf]; omega
      · have hsl : ks.length < 1000 := by omega
        go_wp2_with (first
          | (go_at_call 11; refine (push_any w.heap.size w.heap.size ks _ _ hB.size (by omega) q).mono ?_; rintro e w2 ⟨rfl, q2, k2⟩; have B2 : Bel w w2 := hB.out.trans (QS.below hB.size k2); have r2 := row_of_queue hrow k2; have hcx2 := ((bcell B2).1 b (o + k) hb).trans hck)
          | (at_builtin; refine wpList_append_own _ rfl _ _ 22 rfl w.heap.size 3 i0 (.int .i64 0) 1 8 Try.underlying22 hi hz0 hz1 hz2 rfl (by decide) _ _ _ rfl (r2.alloc _) ⟨w2.heap.size, 0, none⟩ 1 1 [.int .i64 z] rfl rfl (cell_one_new _ _ _) (by intro u hu; simp at hu; subst hu; rfl) (by unfold maxLen; omega) (by omega) (by have := B2.size; simp; omega) ?_; intro v3 w3 hown3 hgrow3 _; have q3 := (q2.bel ((Bel.refl _).alloc _)).of_row (r2.alloc _) hgrow3; have B3 : Bel w w3 := (B2.alloc _).grown hgrow3 (fun g hg => (hrow.lt g hg).1); have r3 : w3.ownsRow w.heap.size 3 1 v3 (ks ++ [(wr.heap.size, z)]).length (((ks ++ [(wr.heap.size, z)]).map Prod.snd).map (Value.int .i64)) := (by rw [List.length_append, List.map_append, List.map_append]; exact hown3); clear hown3 q2; have hkl : (ks ++ [(wr.heap.size, z)]).length ≤ k + 1 := (by rw [List.length_append]; simp only [List.length_cons, List.length_nil]; omega); generalize ks ++ [(wr.heap.size, z)] = kz at q3 r3 hkl)
          | (go_at_call 12; refine (queued_any w.heap.size w.heap.size kz _ q3 (by omega)).mono ?_; rintro e w4 ⟨v4, rfl, r4, b4⟩; have q4 := q3.bel b4; have r34 := row_bel r3 b4; obtain ⟨lo3, lcap3, hv3⟩ := slice_of r34; subst hv3)
          | (go_at_call 13; refine (same_any _ _ (kz.map Prod.snd) (kz.map Prod.snd) _ (ints_ks r4) (ints_ks r34) (by rw [List.length_map]; omega)).mono ?_; rintro e w5 ⟨rfl, b5⟩; rw [sameB_self]; have q5 := q4.bel b5; have r5 := row_bel r34 b5)
          | (go_at_call 14; refine (len_any w.heap.size w.heap.size kz _ q5).mono ?_; rintro e w6 ⟨rfl, e6⟩; subst e6))
        go_roundw
        case rel => exact ⟨k + 1, kz, by simp, by omega, hkl, r5, q5, btrans B3 (btrans b4 b5)⟩
        case measure => simp only [intOf]; omega
    · have l4 : (k : Int) < X0.length → ¬ ((k : Int) < 100) := by omega
      by_cases l1 : (k : Int) < X0.length
      · have l5 := l4 l1
        clear l4
        go_wp2_with (go_at_call 15; refine (awake_any _).mono ?_; rintro e w4 ⟨rfl, b4⟩)
        go_ret
        exact ⟨rfl, btrans hB b4⟩
      · clear l4
        go_wp2_with (go_at_call 15; refine (awake_any _).mono ?_; rintro e w4 ⟨rfl, b4⟩)
        go_ret
        exact ⟨rfl, btrans hB b4⟩

set_option maxRecDepth 100000 in
theorem lifted (os : Os) (started : os.Started) (H : Type) (enc : TypeId × Value → H) :
    ReturnsInHanded {} Try.checked os 3 .any (Rows.bagQueuesSpec.pre6 enc Try.prog Try.f3 Rows.bagQueuesRow.domain false) (Rows.bagQueuesSpec.post enc Try.prog Try.f3 false true false false) := by
  refine returnsInHanded_of_change (C := Try.checked) own started (by kernel_rfl) Try.func3
    (ChangeSpec.witness6 (enc := enc) (C := Try.checked) false ⟨#[], #[.slice none 0 0], []⟩ 8 (by kernel_rfl) (by kernel_rfl) (by kernel_rfl) (by kernel_rfl)) ?_
  intro W base args ds gs before hval0 hW hcnd _
  have hval : ∀ (j : Nat) t v, Try.f3.params[j]? = some t → args[j]? = some v → Value.okWide Try.prog W .any base t v := hval0
  have hW' := hW
  obtain ⟨p, q, hA0, hV, rfl, hfz, hnd⟩ := hW
  have hA : DataW.TrodAll enc Try.prog W 0 (fun _ => true) true Try.f3.params.toList args.toList ds p := hA0
  rw [Try.params3] at hA hval
  obtain ⟨v0, vs0, d0, ds0, p0, q0, hargs, rfl, rfl, h0, r0⟩ := trodAll_cons hA
  obtain ⟨rfl, rfl, rfl⟩ := trodAll_nil r0
  obtain rfl : args = #[v0] := by cases args; simp_all
  obtain ⟨rfl, rfl⟩ := trodVars_none hV
  have k0 := h0
  have lt0 : ∀ x ∈ p0, x.block < W.heap.size := by obtain ⟨m, hm⟩ := k0; exact DataW.trod_lt m _ _ _ hm
  obtain ⟨X0, wy0, vy0⟩ := open_intsK Try.underlying22 Try.underlying3 (by kernel_rfl) (hval 0 22 v0 rfl rfl) h0
  clear hA0 hval0
  refine (walk W v0 X0 wy0 vy0).mono fun e W' ⟨he, bel⟩ => ?_
  subst he
  exact ⟨_, rfl, _, _, _, [], _, [], hW', trodAll_mk1 (shut_bool Try.underlying4 _), (trodAll_cons_mk (Below.trod laidOut (by kernel_rfl) (of_decide_eq_true (by kernel_rfl)) k0 bel.out lt0) trodAll_mk0), rfl, bel.out.frame _, fun h => by cases h⟩

theorem over : Rows.bagQueuesRow.holds Try.pinned (OpenSpec.ofChange Rows.bagQueuesSpec) :=
  OpenClaim.holds_of_wide 3 Try.f3 rfl rfl rfl rfl rfl rfl rfl ⟨rfl, rfl, rfl, rfl, rfl⟩ rfl rfl rfl rfl rfl (by kernel_rfl) Try.func3 (by kernel_rfl)
    (of_decide_eq_true (by kernel_rfl)) (by unfold Func.isWrapper; first | (rw [if_pos (by decide +kernel)]; kernel_rfl) | (rw [if_neg (by decide +kernel)]; exact ⟨rfl, rfl⟩))
    (fun os started H enc _ => lifted os started H enc)

theorem proved : Rows.BagQueuesSaid :=
  over
#print axioms proved
end Go.Proofs.Ytfgejepjiifmlaa.bagQueues
