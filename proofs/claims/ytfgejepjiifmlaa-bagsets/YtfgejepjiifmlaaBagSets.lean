/-
  The law 'BagSets' of delayslotlaw05 returns true at every input: whatever is added, what is told, and what is there, is what the document says.
  Conditions: none.
-/
import Derived.Test.YtfgejepjiifmlaaRows
import Derived.WalkKit
import Derived.ProofKit
import Derived.OpenShut
import Derived.ShutString
import Derived.ChangeOld
import Derived.Below
import Derived.Carry
import Derived.Test.YtfgejepjiifmlaaMix5
import Derived.Test.YtfgejepjiifmlaaTwo
import Derived.Maps.AppendAt
import Derived.Maps.OwnIn
namespace Go.Proofs.Ytfgejepjiifmlaa.bagSets
open Go.ChangeShapes Go.WideShapes Go.ChangeAt Go.RowKit
open Go.ChangeMaps (open_string shut_string)
set_option linter.unusedVariables false

theorem laidOut : laidOutB Try.prog = true := by kernel_rfl
theorem own : ownKnob Try.prog.godebug = none := by kernel_rfl
open Go.Shelf Go.Maps
attribute [local go_sem] Oper.semAt_some
theorem inB_snoc (L : List Int) (z : Int) : inB (L ++ [z]) z = true := by rw [inB_iff]; simp

set_option maxRecDepth 20000 in
set_option maxHeartbeats 2000000 in
theorem walk (w : World) (y0 : Value) (X0 : List Int) (wy0 : Ints .i64 w y0 X0) (vy0 : ∀ x ∈ X0, (Lit.int .i64 x).wf = true) (x1 : Int) (wx1 : (Lit.int .i64 x1).wf = true) :
    Calls Try.prog 4 #[y0, .int .i64 x1] w fun e w' => e = .returned (.bool true) ∧ Bel w w' := by
  have s0 := IsS.new w.heap.size w (Nat.le_refl _)
  have B0 : Bel w (w.alloc (.cells #[.slice none 0 0, .map none] 39)) := (Bel.refl _).alloc _
  obtain ⟨i0, hi, hz0, hz1, hz2⟩ := info_parts intInfo
  obtain ⟨ao, cap, rfl, hv⟩ := wy0
  refine (callsIn_wide (n := 4)).1 ?_
  refine callsIn_of_wp_marks Try.func4 rfl trivial ?_ rfl
  simp only [Try.ntmps4, List.size_toArray, List.length_cons, List.length_nil, Nat.reduceAdd, Nat.reduceSub, Array.replicate_succ, Array.replicate_zero, List.push_toArray, List.append_toArray, List.nil_append, List.cons_append]
  gi_wp2
  gi_loopw [6, 7] (fun u i wr => ∃ (k : Nat) (L : List Int) (v : Value) (mp : Option Nat), i = .int .i64 k ∧ k ≤ min X0.length 100 ∧ L.length ≤ k ∧ IsS w.heap.size wr w.heap.size v mp L ∧ wr.ownsRow w.heap.size 3 1 u L.length (L.map (Value.int .i64)) ∧ Apart u v ∧ Bel w wr) (fun _ i _ => 100 - (intOf i).toNat)
  case atStart => exact ⟨0, [], _, _, rfl, Nat.zero_le _, Nat.le_refl _, s0, World.ownsRow_nil _ _ _ _, apart_nil _, B0⟩
  case round =>
    obtain ⟨k, L, v, mp, rfl, hk, hlk, s, hrow, hap, hB⟩ := hrel
    have hsz := hB.size
    by_cases hlt : k < min X0.length 100
    · obtain ⟨b, o, rfl, hb, hc⟩ := hv (by omega)
      have hck := hc k (by omega)
      have hcx := ((bcell hB).1 b (o + k) hb).trans hck
      have wz := vy0 (X0[k]?.getD 0) (by simp [show k < X0.length by omega])
      have l1 : (k : Int) < X0.length := by omega
      have l2 : k < X0.length := by omega
      have l3 : (k : Int) < 100 := by omega
      generalize X0[k]?.getD 0 = z at hck hcx wz
      clear hc hv
      have hI := ints_of_row hrow
      obtain ⟨lo, lcap, hu⟩ := slice_of hrow
      subst hu
      have hlen2 : L.length < 1000 := by omega
      cases hin : inB L z with
      | true =>
        gi_wp2_with (first
          | (refine ⟨trivial, ?_⟩; gi_at_call 16; refine (callsIn_wide.2 (in_any _ L z _ hI (by omega))).mono ?_; rintro e w1 ⟨rfl, e1⟩; subst e1; rw [hin])
          | (refine ⟨trivial, ?_⟩; gi_at_call 17; refine (callsIn_wide.2 (has_any w.heap.size w.heap.size v mp L z wz _ s3)).mono ?_; rintro e w4 ⟨rfl, b4⟩; rw [hin]; have s4 := s3.bel b4)
          | (refine ⟨trivial, ?_⟩; gi_at_call 17; refine (callsIn_wide.2 (has_any w.heap.size w.heap.size v mp L z wz _ s)).mono ?_; rintro e w2 ⟨rfl, b2⟩; rw [hin]; have s2 := s.bel b2; have hcx2 := ((bcell (btrans hB b2)).1 b (o + k) hb).trans hck)
          | (refine ⟨trivial, ?_⟩; gi_at_call 18; refine (callsIn_wide.2 (add_old w.heap.size w.heap.size v mp L z wz _ s2 hin)).mono ?_; rintro e w3 ⟨rfl, b3⟩; have s3 := s2.bel b3; have hcx3 := ((bcell (btrans hB (btrans b2 b3))).1 b (o + k) hb).trans hck))
        go_roundw
        case rel => exact ⟨k + 1, L, v, mp, by simp, by omega, by omega, s4, row_bel hrow (btrans b2 (btrans b3 b4)), hap, btrans hB (btrans b2 (btrans b3 b4))⟩
        case measure => simp only [intOf]; omega
      | false =>
        have hin2 := inB_snoc L z
        gi_wp2_with (first
          | (refine ⟨trivial, ?_⟩; gi_at_call 16; refine (callsIn_wide.2 (in_any _ L z _ hI (by omega))).mono ?_; rintro e w1 ⟨rfl, e1⟩; subst e1; rw [hin])
          | (refine ⟨trivial, ?_⟩; gi_at_call 17; refine (callsIn_wide.2 (has_any w.heap.size w.heap.size v3 (some m3) (L ++ [z]) z wz _ s3)).mono ?_; rintro e w4 ⟨rfl, b4⟩; rw [hin2]; have s4 := s3.bel b4; have r4 := row_bel r3 b4; have B4 := btrans B3 b4; have hcx4 := ((bcell B4).1 b (o + k) hb).trans hck)
          | (refine ⟨trivial, ?_⟩; gi_at_call 17; refine (callsIn_wide.2 (has_any w.heap.size w.heap.size v mp L z wz _ s)).mono ?_; rintro e w2 ⟨rfl, b2⟩; rw [hin]; have s2 := s.bel b2; have r2 := row_bel hrow b2; have B2 := btrans hB b2; have hcx2 := ((bcell B2).1 b (o + k) hb).trans hck)
          | (refine ⟨trivial, ?_⟩; gi_at_call 18; refine (callsIn_wide.2 (add_new w.heap.size w.heap.size v mp L z wz (by omega) _ B2.size s2 hin)).mono ?_; rintro e w3 ⟨rfl, v3, m3, s3, k3, o3, -⟩; have B3 : Bel w w3 := B2.out.trans (s2.below B2.size k3); have r3 := row_of_set s2 r2 hap k3; have a3 := apart_add r2 hap o3; have hcx3 := ((bcell B3).1 b (o + k) hb).trans hck)
          | (gi_at_builtin; refine wpListIn_append_own_at _ rfl _ _ 22 rfl w.heap.size 3 i0 (.int .i64 0) 1 8 Try.underlying22 hi hz0 hz1 hz2 rfl (by decide) _ _ _ rfl (r4.alloc _) ⟨w4.heap.size, 0, none⟩ 1 1 [.int .i64 z] rfl rfl (cell_one_new _ _ _) (by intro u hu; simp at hu; subst hu; rfl) (by unfold maxLen; omega) (by omega) (by have := B4.size; simp; omega) ?_; intro v5 w5 hown5 hgrow5 _ hloc5; have s4' := s4.bel ((Bel.refl w4).alloc (.cells #[.int .i64 z] 3)); have s5 := s4'.of_row (r4.alloc _) a3 hgrow5; have a5 := apart_app s4'.row a3 (Nat.le_refl _) hloc5; have B5 : Bel w w5 := (B4.alloc _).grown hgrow5 (fun g hg => (hrow.lt g hg).1)))
        go_roundw
        case rel =>
          refine ⟨k + 1, L ++ [z], v3, some m3, by simp, by omega, by simp; omega, s5, ?_, a5, B5⟩
          rw [List.length_append, List.map_append]
          exact hown5
        case measure => simp only [intOf]; omega
    · have hI := ints_of_row hrow
      obtain ⟨lo, lcap, hu⟩ := slice_of hrow
      subst hu
      obtain ⟨so, scap, hsv⟩ := slice_of s.row
      subst hsv
      have hlen2 : L.length < 1000 := by omega
      have l4 : (k : Int) < X0.length → ¬ ((k : Int) < 100) := by omega
      have s1 := s.bel ((Bel.refl wr).alloc (.cells #[.slice none 0 0] 22))
      have hh := s.held
      have heq := fun (w : World) (B1 : Nat) => eql_func_nil w 43 (.func 28) #[] #[.pointer (some ⟨B1, 0, none⟩)] Try.underlying43
      by_cases l1 : (k : Int) < X0.length
      all_goals
        first | (have l5 := l4 l1; clear l4) | clear l4
        gi_wp2_with (refine ⟨trivial, ?_⟩; gi_at_call 19; refine (callsIn_wide.2 (sall_any w.heap.size w.heap.size _ mp L _ s1)).mono ?_; rintro e w2 ⟨rfl, e2'⟩; have E2 : Hid (w2 = (wr.alloc (.cells #[.slice none 0 0] 22)).alloc (.cells #[.slice so L.length scap] 22)) := e2'; clear e2'; simp only [World.size_alloc])
        have e2 := E2.out
        clear E2
        have bO : Boxed w2 wr.heap.size 22 (.slice none 0 0) := by rw [e2]; exact (Boxed.new wr _ _).alloc _
        have Bw : Bel wr w2 := by rw [e2]; exact ((Bel.refl wr).alloc _).alloc _
        have b1 : Boxed w2 (wr.heap.size + 1) 22 (.slice so L.length scap) := by
          rw [e2]
          have := Boxed.new (wr.alloc (.cells #[.slice none 0 0] 22)) 22 (.slice so L.length scap)
          rw [World.size_alloc] at this
          exact this
        have hs2 : w2.heap.size = wr.heap.size + 2 := by rw [e2]; simp
        have hL' : HeldX (wr.heap.size + 2) (fun k => k = wr.heap.size) w2 so L := fun hp => by
          obtain ⟨g, o, e, hg, hc⟩ := hh hp
          exact ⟨g, o, e, by omega, by omega, fun j hj => ((bcell Bw).1 g (o + j) hg).trans (hc j hj)⟩
        clear e2
        refine wpIn_rangeFunc_ownG rfl (by omega) (gf := 28) (lb := #[.pointer (some ⟨wr.heap.size + 1, 0, none⟩)]) rfl trivial (enters_of Try.func28 (by kernel_rfl) rfl)
          (sall_stops Fence.wide 3 trivial rfl (by omega) (wr.heap.size + 1) (wr.heap.size + 2) (fun k => k = wr.heap.size) so scap L (by omega) w2 b1 (by omega) hL') keepX_t (keepX_b (by omega)) (Below.refl _ _) (fun _ => rfl)
          (fun (pre : List Int) W => (∃ v, Boxed W wr.heap.size 22 v ∧ W.ownsRow (wr.heap.size + 2) 3 1 v pre.length (pre.map (Value.int .i64)) ∧ True) ∧ Below wr.heap.size wr W ∧ wr.heap.size + 2 ≤ W.heap.size)
          (fun _ _ _ => False)
          (OwnFrom.and (Own.from (holdsRow_own (wr.heap.size + 2) wr.heap.size 22 3 1 (fun pre : List Int => pre.length) (fun pre => pre.map (Value.int .i64)) (fun _ _ => True)) _) (OwnFrom.and (ownFrom_below (Nat.le_refl _) (by omega)) (fun _ _ _ _ hs hg _ => Nat.le_trans hs hg.size)))
          (fun _ _ _ _ _ hs _ _ => hs)
          ⟨⟨_, bO, World.ownsRow_nil _ _ _ _, trivial⟩, Bw, by omega⟩
          ?_ ?assign ?body ?done ?stop
        case assign =>
          intro l x W K hK
          gi_wp2
          exact hK
        case body =>
          rintro l pre x W ⟨⟨v, hv, hrow, _⟩, hB, hle⟩ hlt
          have hc := hv.cell
          obtain ⟨ao, cap, hva⟩ := slice_of hrow
          subst hva
          have hlen2 : pre.length < 1000000 := by omega
          gi_wp2_with (gi_at_builtin; refine wpListIn_append_own _ rfl _ _ 22 rfl (wr.heap.size + 2) 3 i0 (.int .i64 0) 1 8 Try.underlying22 hi hz0 hz1 hz2 rfl (by decide) _ _ _ rfl (hrow.alloc _) ⟨W.heap.size, 0, none⟩ 1 1 [.int .i64 x] rfl rfl (one_cell rfl) (by intro u hu; simp at hu; subst hu; rfl) (by unfold maxLen; omega) (by omega) (by simp; omega) ?_; intro v' w2 hown' hgrow _; obtain ⟨g', cap', hv'⟩ := row_succ hown'; subst hv'; obtain ⟨hv3, hv4, hr4, hk4, hb4⟩ := appended hv (by omega) hle hrow hown' hgrow; have hc3 := hv3.cell; have hf3 := hv3.frozen)
          refine ⟨hk4.from _, hb4.keepX hle (fun k o s => s), ⟨_, hv4, ?_, trivial⟩, hB.trans (hb4.below (by omega) (fun k o _ s => by omega)), by have := hb4.size; omega⟩
          rw [List.map_append, List.length_append]
          exact hr4
        case done =>
          rintro D ys W hD e ⟨⟨v, hv, hrowW, _⟩, hBW, hle⟩ hK
          subst e
          have hc := hv.cell
          have sW := s.bel (W' := W) hBW
          have rW := row_bel hrow (W' := W) hBW
          have hIW := ints_of_row rW
          have hIG := ints_of_row hrowW
          have BW : Bel w W := btrans hB hBW
          obtain ⟨go, gcap, hvg⟩ := slice_of hrowW
          subst hvg
          gi_wp2_with (first
            | (refine ⟨trivial, ?_⟩; gi_at_call 13; refine (callsIn_wide.2 (same_any _ _ ys ys _ hIG hIW (by omega))).mono ?_; rintro e w3 ⟨rfl, b3⟩; rw [sameB_self]; have s3 := sW.bel b3; have hI3 := hIW.bel b3)
            | (refine ⟨trivial, ?_⟩; gi_at_call 20; refine (callsIn_wide.2 (slen_any w.heap.size w.heap.size _ mp ys _ s3)).mono ?_; rintro e w4 ⟨rfl, e4⟩; subst e4)
            | (refine ⟨trivial, ?_⟩; gi_at_call 17; refine (callsIn_wide.2 (has_any w.heap.size w.heap.size _ mp ys x1 wx1 _ s3)).mono ?_; rintro e w5 ⟨rfl, b5⟩; have hI5 := hI3.bel b5)
            | (refine ⟨trivial, ?_⟩; gi_at_call 16; refine (callsIn_wide.2 (in_any _ ys x1 _ hI5 (by omega))).mono ?_; rintro e w6 ⟨rfl, e6⟩; subst e6)
            | (refine ⟨trivial, ?_⟩; gi_at_call 15; refine (callsIn_wide.2 (awake_any _)).mono ?_; rintro e w7 ⟨rfl, b7⟩))
          have b37 := btrans b3 (btrans b5 b7)
          have hK7 : w7.heap[D]? = some (.deferred (some [])) := (b37.out.block D (lt_of_heap hK)).trans hK
          refine ⟨by simp, .inl ⟨_, _, rfl, run_takeDeferred hK7, ?_⟩⟩
          exact ⟨_, results_tmp rfl _ _ _, rfl, (btrans BW b37).out.trans (belowK_b (w := w) (Nat.le_refl _) w7 D _ _ (by omega) hK7 rfl rfl)⟩
        case stop =>
          rintro D c pre W _ _ h _
          exact h.elim

set_option maxRecDepth 100000 in
theorem lifted (os : Os) (started : os.Started) (H : Type) (enc : TypeId × Value → H) :
    ReturnsInHanded {} Try.checked os 4 .any (Rows.bagSetsSpec.pre6 enc Try.prog Try.f4 Rows.bagSetsRow.domain false) (Rows.bagSetsSpec.post enc Try.prog Try.f4 false true false false) := by
  refine returnsInHanded_of_change (C := Try.checked) own started (by kernel_rfl) Try.func4
    (ChangeSpec.witness6 (enc := enc) (C := Try.checked) false ⟨#[], #[.slice none 0 0, .int .i64 0], []⟩ 8 (by kernel_rfl) (by kernel_rfl) (by kernel_rfl) (by kernel_rfl)) ?_
  intro W base args ds gs before hval0 hW hcnd _
  have hval : ∀ (j : Nat) t v, Try.f4.params[j]? = some t → args[j]? = some v → Value.okWide Try.prog W .any base t v := hval0
  have hW' := hW
  obtain ⟨p, q, hA0, hV, rfl, hfz, hnd⟩ := hW
  have hA : DataW.TrodAll enc Try.prog W 0 (fun _ => true) true Try.f4.params.toList args.toList ds p := hA0
  rw [Try.params4] at hA hval
  obtain ⟨v0, vs0, d0, ds0, p0, q0, hargs, rfl, rfl, h0, r0⟩ := trodAll_cons hA
  obtain ⟨v1, vs1, d1, ds1, p1, q1, rfl, rfl, rfl, h1, r1⟩ := trodAll_cons r0
  obtain ⟨rfl, rfl, rfl⟩ := trodAll_nil r1
  obtain rfl : args = #[v0, v1] := by cases args; simp_all
  obtain ⟨rfl, rfl⟩ := trodVars_none hV
  have k0 := h0
  have lt0 : ∀ x ∈ p0, x.block < W.heap.size := by obtain ⟨m, hm⟩ := k0; exact DataW.trod_lt m _ _ _ hm
  obtain ⟨X0, wy0, vy0⟩ := open_intsK Try.underlying22 Try.underlying3 (by kernel_rfl) (hval 0 22 v0 rfl rfl) h0
  obtain ⟨x1, rfl, rfl, rfl, wx1⟩ := open_int Try.underlying3 (hval 1 3 v1 rfl rfl) h1
  clear hA0 hval0
  refine (walk W v0 X0 wy0 vy0 x1 wx1).mono fun e W' ⟨he, bel⟩ => ?_
  subst he
  exact ⟨_, rfl, _, _, _, [], _, [], hW', trodAll_mk1 (shut_bool Try.underlying4 _), (trodAll_cons_mk (Below.trod laidOut (by kernel_rfl) (of_decide_eq_true (by kernel_rfl)) k0 bel.out lt0) (trodAll_cons_mk (shut_int Try.underlying3 wx1) trodAll_mk0)), rfl, bel.out.frame _, fun h => by cases h⟩

theorem over : Rows.bagSetsRow.holds Try.pinned (OpenSpec.ofChange Rows.bagSetsSpec) :=
  OpenClaim.holds_of_wide 4 Try.f4 rfl rfl rfl rfl rfl rfl rfl ⟨rfl, rfl, rfl, rfl, rfl⟩ rfl rfl rfl rfl rfl (by kernel_rfl) Try.func4 (by kernel_rfl)
    (of_decide_eq_true (by kernel_rfl)) (by unfold Func.isWrapper; first | (rw [if_pos (by decide +kernel)]; kernel_rfl) | (rw [if_neg (by decide +kernel)]; exact ⟨rfl, rfl⟩))
    (fun os started H enc _ => lifted os started H enc)

theorem proved : Rows.BagSetsSaid :=
  over
#print axioms proved
end Go.Proofs.Ytfgejepjiifmlaa.bagSets
