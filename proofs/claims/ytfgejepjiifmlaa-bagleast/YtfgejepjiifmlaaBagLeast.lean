/-
  The law 'BagLeast' of delayslotlaw05 returns true at every input: the least one of a set is the first that no other one is less than, by the number of tens.
  Conditions: none.
-/
import Derived.Test.YtfgejepjiifmlaaRows
import Derived.WalkKit
import Derived.ProofKit
import Derived.OpenShut
import Derived.ShutString
import Derived.ChangeOld
import Derived.Below
import Derived.Carry
import Derived.Test.YtfgejepjiifmlaaMix5
import Derived.Test.YtfgejepjiifmlaaTwo
import Derived.Test.YtfgejepjiifmlaaLea
import Derived.Maps.AppendAt
namespace Go.Proofs.Ytfgejepjiifmlaa.bagLeast
open Go.ChangeShapes Go.WideShapes Go.ChangeAt Go.RowKit
open Go.ChangeMaps (open_string shut_string)
set_option linter.unusedVariables false

theorem laidOut : laidOutB Try.prog = true := by kernel_rfl
theorem own : ownKnob Try.prog.godebug = none := by kernel_rfl
theorem fm_cons (x : Int) (r : List Int) (h : 0 < r.length) : fm (x :: r) = if ltB (fm r) x then fm r else x := by
  cases r with
  | nil => simp at h
  | cons y r => rfl
theorem drop_elt (L : List Int) (m : Nat) (h : m < L.length) : L.drop m = elt L m :: L.drop (m + 1) := by
  rw [List.drop_eq_getElem_cons h]
  congr 1
  simp [elt, h]
theorem some_cons (x : Int) (r : List Int) : someB (x :: r) = true := rfl
theorem fm_wf : ∀ (L : List Int), (∀ x ∈ L, (Lit.int .i64 x).wf = true) → (Lit.int .i64 (fm L)).wf = true
  | [], _ => by decide
  | x :: r, h => h _ (fm_mem x r)

set_option maxRecDepth 20000 in
set_option maxHeartbeats 2000000 in
theorem walk (w : World) (y0 : Value) (X0 : List Int) (wy0 : Ints .i64 w y0 X0) (vy0 : ∀ x ∈ X0, (Lit.int .i64 x).wf = true) :
    Calls Try.prog 5 #[y0] w fun e w' => e = .returned (.bool true) ∧ Bel w w' := by
  have s0 := IsS.new w.heap.size w (Nat.le_refl _)
  have B0 : Bel w (w.alloc (.cells #[.slice none 0 0, .map none] 39)) := (Bel.refl _).alloc _
  obtain ⟨i0, hi, hz0, hz1, hz2⟩ := info_parts intInfo
  obtain ⟨ao, cap, rfl, hv⟩ := wy0
  go_enter Try.func5, Try.ntmps5
  go_wp2_with fail
  go_loopw [4, 5] (fun u i wr => ∃ (k : Nat) (L : List Int) (v : Value) (mp : Option Nat), i = .int .i64 k ∧ k ≤ min X0.length 100 ∧ L.length ≤ k ∧ IsS w.heap.size wr w.heap.size v mp L ∧ wr.ownsRow w.heap.size 3 1 u L.length (L.map (Value.int .i64)) ∧ Apart u v ∧ (∀ x ∈ L, (Lit.int .i64 x).wf = true) ∧ Bel w wr) (fun _ i _ => 100 - (intOf i).toNat)
  case atStart => exact ⟨0, [], _, _, rfl, Nat.zero_le _, Nat.le_refl _, s0, World.ownsRow_nil _ _ _ _, apart_nil _, by simp, B0⟩
  case round =>
    obtain ⟨k, L, v, mp, rfl, hk, hlk, s, hrow, hap, hwf, hB⟩ := hrel
    have hsz := hB.size
    by_cases hlt : k < min X0.length 100
    · obtain ⟨b, o, rfl, hb, hc⟩ := hv (by omega)
      have hck := hc k (by omega)
      have hcx := ((bcell hB).1 b (o + k) hb).trans hck
      have wz := vy0 (X0[k]?.getD 0) (by simp [show k < X0.length by omega])
      have l1 : (k : Int) < X0.length := by omega
      have l2 : k < X0.length := by omega
      have l3 : (k : Int) < 100 := by omega
      generalize X0[k]?.getD 0 = z at hck hcx wz
      clear hc hv
      cases hin : inB L z with
      | true =>
        go_wp2_with (go_at_call 18; refine (add_old w.heap.size w.heap.size v mp L z wz _ s hin).mono ?_; rintro e w2 ⟨rfl, b2⟩)
        go_roundw
        case rel => exact ⟨k + 1, L, v, mp, by simp, by omega, by omega, s.bel b2, row_bel hrow b2, hap, hwf, btrans hB b2⟩
        case measure => simp only [intOf]; omega
      | false =>
        have hwf' : Hid (∀ x ∈ L ++ [z], (Lit.int .i64 x).wf = true) := fun x hx => by
          rcases List.mem_append.1 hx with hx | hx
          · exact hwf x hx
          · simp at hx; subst hx; exact wz
        have hlen2 : L.length < 1000 := by omega
        go_wp2_with (first
          | (go_at_call 18; refine (add_new w.heap.size w.heap.size v mp L z wz (by omega) _ hsz s hin).mono ?_; rintro e w2 ⟨rfl, v2, m2, s2, k2, o2, -⟩; have B2 : Bel w w2 := hB.out.trans (s.below hsz k2); have r2 := row_of_set s hrow hap k2; have a2 := apart_add hrow hap o2; have hcx2 := ((bcell B2).1 b (o + k) hb).trans hck)
          | (at_builtin; refine wpList_append_own_at _ rfl _ _ 22 rfl w.heap.size 3 i0 (.int .i64 0) 1 8 Try.underlying22 hi hz0 hz1 hz2 rfl (by decide) _ _ _ rfl (r2.alloc _) ⟨w2.heap.size, 0, none⟩ 1 1 [.int .i64 z] rfl rfl (cell_one_new _ _ _) (by intro u hu; simp at hu; subst hu; rfl) (by unfold maxLen; omega) (by omega) (by have := B2.size; simp; omega) ?_; intro v3 w3 hown3 hgrow3 _ hloc3; have s2' := s2.bel ((Bel.refl w2).alloc (.cells #[.int .i64 z] 3)); have s3 := s2'.of_row (r2.alloc _) a2 hgrow3; have a3 := apart_app s2'.row a2 (Nat.le_refl _) hloc3; have B3 : Bel w w3 := (B2.alloc _).grown hgrow3 (fun g hg => (hrow.lt g hg).1)))
        go_roundw
        case rel =>
          refine ⟨k + 1, L ++ [z], v2, some m2, by simp, by omega, by simp; omega, s3, ?_, a3, hwf'.out, B3⟩
          rw [List.length_append, List.map_append]
          exact hown3
        case measure => simp only [intOf]; omega
    · have hI := ints_of_row hrow
      obtain ⟨lo, lcap, hu⟩ := slice_of hrow
      subst hu
      obtain ⟨so, scap, hsv⟩ := slice_of s.row
      subst hsv
      have hlen2 : L.length < 1000 := by omega
      have l4 : (k : Int) < X0.length → ¬ ((k : Int) < 100) := by omega
      have s2 := s.bel ((Bel.refl wr).alloc (.cells #[.slice so L.length scap] 22))
      have hheld := s2.held
      have Hw : Hid (∀ x ∈ L, (Lit.int .i64 x).wf = true) := hwf
      clear hwf
      by_cases l1 : (k : Int) < X0.length
      all_goals
        first | (have l5 := l4 l1; clear l4) | clear l4
        go_wp2_with (first
          | (go_at_call 19; refine (sall_any w.heap.size w.heap.size _ mp L _ s).mono ?_; rintro e w2 ⟨rfl, e2⟩; subst e2)
          | (go_at_call 21; refine (least_any wr.heap.size so scap L _ (by omega) Hw.out (Boxed.new _ _ _) hheld).mono ?_; rintro e w3 ⟨rfl, b3⟩; have hI3 := hI.bel (btrans ((Bel.refl wr).alloc _) b3); have B3 : Bel w w3 := btrans (hB.alloc _) b3))
        obtain ⟨lo', lcap', he, hv3⟩ := hI3
        injection he with he1 he2 he3
        subst he1
        subst he3
        clear he2
        go_loop [8, 9, 10] (fun a is i => ∃ m : Nat, m ≤ L.length ∧ a = .int .i64 (fm (L.drop m)) ∧ is = .bool (someB (L.drop m)) ∧ i = .int .i64 ((m : Int) - 1)) (fun _ _ i => (intOf i + 1).toNat)
        case atStart => exact ⟨L.length, Nat.le_refl _, by rw [List.drop_length]; rfl, by rw [List.drop_length]; rfl, rfl⟩
        case round =>
          obtain ⟨m, hm, rfl, rfl, rfl⟩ := hrel
          cases m with
          | zero =>
            rw [List.drop_zero]
            go_wp2_with (go_at_call 15; refine (awake_any _).mono ?_; rintro e w4 ⟨rfl, b4⟩)
            go_ret
            exact ⟨rfl, btrans B3 b4⟩
          | succ m =>
            have em : (((m + 1 : Nat) : Int) - 1) = (m : Int) := by omega
            rw [em]
            have hml : m < L.length := by omega
            have hmi : (m : Int) < L.length := by omega
            have hd := drop_elt L m hml
            obtain ⟨b, o, rfl, hb, hc⟩ := hv3 (by omega)
            have hcx := hc m hml
            change w3.cell? _ = some (.int .i64 (elt L m)) at hcx
            have wz := Hw.out _ (elt_mem hml)
            have wa := fm_wf (L.drop (m + 1)) (fun x hx => Hw.out x (List.mem_of_mem_drop hx))
            have hf : fm (L.drop m) = if someB (L.drop (m + 1)) = false then elt L m else if ltB (fm (L.drop (m + 1))) (elt L m) then fm (L.drop (m + 1)) else elt L m := by
              rw [hd]
              cases hr : L.drop (m + 1) with
              | nil => rfl
              | cons y r => rfl
            have hs : someB (L.drop m) = true := by rw [hd]; rfl
            have HF : Hid (fm (L.drop m) = if someB (L.drop (m + 1)) = false then elt L m else if ltB (fm (L.drop (m + 1))) (elt L m) then fm (L.drop (m + 1)) else elt L m) := hf
            have HS : Hid (someB (L.drop m) = true) := hs
            clear hf hs hd hc hv3 em
            generalize fm (L.drop (m + 1)) = a0 at HF wa ⊢
            generalize someB (L.drop (m + 1)) = b0 at HF ⊢
            generalize elt L m = z at HF hcx wz
            cases b0 with
            | false =>
              go_wp2_with fail
              go_round
              case rel => exact ⟨m, by omega, by rw [HF.out]; rfl, by rw [HS.out], rfl⟩
              case measure => simp only [intOf]; omega
            | true =>
              cases hlb : ltB a0 z with
              | true =>
                have HL : Hid (ltB a0 z = true) := hlb
                go_wp2_with (go_at_call 22; refine (tens_any _ _ wa wz _).mono ?_; rintro e w' ⟨rfl, e3⟩; subst e3)
                go_round
                case rel => exact ⟨m, by omega, by rw [HF.out, HL.out]; rfl, by rw [HS.out], rfl⟩
                case measure => simp only [intOf]; omega
              | false =>
                have HL : Hid (ltB a0 z = false) := hlb
                go_wp2_with (go_at_call 22; refine (tens_any _ _ wa wz _).mono ?_; rintro e w' ⟨rfl, e3⟩; subst e3)
                go_round
                case rel => exact ⟨m, by omega, by rw [HF.out, HL.out]; rfl, by rw [HS.out], rfl⟩
                case measure => simp only [intOf]; omega

set_option maxRecDepth 100000 in
theorem lifted (os : Os) (started : os.Started) (H : Type) (enc : TypeId × Value → H) :
    ReturnsInHanded {} Try.checked os 5 .any (Rows.bagLeastSpec.pre6 enc Try.prog Try.f5 Rows.bagLeastRow.domain false) (Rows.bagLeastSpec.post enc Try.prog Try.f5 false true false false) := by
  refine returnsInHanded_of_change (C := Try.checked) own started (by kernel_rfl) Try.func5
    (ChangeSpec.witness6 (enc := enc) (C := Try.checked) false ⟨#[], #[.slice none 0 0], []⟩ 8 (by kernel_rfl) (by kernel_rfl) (by kernel_rfl) (by kernel_rfl)) ?_
  intro W base args ds gs before hval0 hW hcnd _
  have hval : ∀ (j : Nat) t v, Try.f5.params[j]? = some t → args[j]? = some v → Value.okWide Try.prog W .any base t v := hval0
  have hW' := hW
  obtain ⟨p, q, hA0, hV, rfl, hfz, hnd⟩ := hW
  have hA : DataW.TrodAll enc Try.prog W 0 (fun _ => true) true Try.f5.params.toList args.toList ds p := hA0
  rw [Try.params5] at hA hval
  obtain ⟨v0, vs0, d0, ds0, p0, q0, hargs, rfl, rfl, h0, r0⟩ := trodAll_cons hA
  obtain ⟨rfl, rfl, rfl⟩ := trodAll_nil r0
  obtain rfl : args = #[v0] := by cases args; simp_all
  obtain ⟨rfl, rfl⟩ := trodVars_none hV
  have k0 := h0
  have lt0 : ∀ x ∈ p0, x.block < W.heap.size := by obtain ⟨m, hm⟩ := k0; exact DataW.trod_lt m _ _ _ hm
  obtain ⟨X0, wy0, vy0⟩ := open_intsK Try.underlying22 Try.underlying3 (by kernel_rfl) (hval 0 22 v0 rfl rfl) h0
  clear hA0 hval0
  refine (walk W v0 X0 wy0 vy0).mono fun e W' ⟨he, bel⟩ => ?_
  subst he
  exact ⟨_, rfl, _, _, _, [], _, [], hW', trodAll_mk1 (shut_bool Try.underlying4 _), (trodAll_cons_mk (Below.trod laidOut (by kernel_rfl) (of_decide_eq_true (by kernel_rfl)) k0 bel.out lt0) trodAll_mk0), rfl, bel.out.frame _, fun h => by cases h⟩

theorem over : Rows.bagLeastRow.holds Try.pinned (OpenSpec.ofChange Rows.bagLeastSpec) :=
  OpenClaim.holds_of_wide 5 Try.f5 rfl rfl rfl rfl rfl rfl rfl ⟨rfl, rfl, rfl, rfl, rfl⟩ rfl rfl rfl rfl rfl (by kernel_rfl) Try.func5 (by kernel_rfl)
    (of_decide_eq_true (by kernel_rfl)) (by unfold Func.isWrapper; first | (rw [if_pos (by decide +kernel)]; kernel_rfl) | (rw [if_neg (by decide +kernel)]; exact ⟨rfl, rfl⟩))
    (fun os started H enc _ => lifted os started H enc)

theorem proved : Rows.BagLeastSaid :=
  over
#print axioms proved
end Go.Proofs.Ytfgejepjiifmlaa.bagLeast
