/-
  The law 'BlockWhole' of delayslotlaw09 returns true at all code: blocks are all of the code, each place in one; what goes is the last one of its block, and goes to a head, or the end.
  Conditions: none.
-/
import Derived.Test.YtdhnlloohjehgaaRows
import Derived.WalkKit
import Derived.ProofKit
import Derived.OpenShut
import Derived.ShutString
import Derived.ChangeOld
import Derived.Below
import Derived.Carry
import Derived.Test.YtdhnlloohjehgaaAwk9
import Derived.Test.YtdhnlloohjehgaaBw
namespace Go.Proofs.Ytdhnlloohjehgaa.blockWhole
open Go.ChangeShapes Go.WideShapes Go.ChangeAt Go.RowKit
open Go.ChangeMaps (open_string shut_string)
set_option linter.unusedVariables false

theorem laidOut : laidOutB Try.prog = true := by kernel_rfl
theorem own : ownKnob Try.prog.godebug = none := by kernel_rfl

set_option maxRecDepth 20000 in
set_option maxHeartbeats 2000000 in
theorem walk (w : World) (y0 : Value) (X0 : List Ins) (wy0 : Code w y0 X0) :
    Calls Try.prog 5 #[y0] w fun e w' => e = .returned (.bool true) ∧ Bel w w' := by
  have HV := hidm wy0
  obtain ⟨ao, ca, rfl, hc0⟩ := wy0
  have HC0 := hidm hc0
  clear hc0
  by_cases hl : X0.length ≤ 200
  · cases hf : fitB X0 with
    | false =>
      go_enter Try.func5, Try.ntmps5
      go_wp2_with (first
        | (go_at_call 13; refine (fit_any X0 _ _ (by omega) HV.out).mono ?_; rw [hf]; rintro e w1 ⟨rfl, b1⟩)
        | (go_at_call 10; refine (awake_any _).mono ?_; rintro e w7 ⟨rfl, b7⟩))
      go_ret
      exact ⟨rfl, btrans b1 b7⟩
    | true =>
      have hmk := make_bools (X0.length + 1) (by omega) ((X0.length : Int) + 1) (by omega)
      have HJ0 := hidm (hdJ_zero X0)
      go_enter Try.func5, Try.ntmps5
      go_wp2_with (first
        | (go_at_call 13; refine (fit_any X0 _ _ (by omega) HV.out).mono ?_; rw [hf]; rintro e w1 ⟨rfl, b1⟩; have h1 : (w1.alloc (boolB (fun _ => false) (X0.length + 1))).heap[w1.heap.size]? = some (boolB (fun _ => false) (X0.length + 1)) := heap_new w1 _; have e1 := bool_cell h1 X0.length (by omega); have f1 := frozen_of h1 X0.length)
        | (go_at_call 18; refine Hid.out ?_))
      have h2 := bool_set h1 X0.length
      rw [← HJ0.out] at h2
      have B2 : Bel w ((w1.alloc (boolB (fun _ => false) (X0.length + 1))).setCell ⟨w1.heap.size, X0.length, none⟩ (.bool true)) := (b1.alloc _).setCell b1.size _
      have zg := b1.size
      clear hmk h1 e1 f1 HJ0 b1
      generalize ((w1.alloc (boolB (fun _ => false) (X0.length + 1))).setCell ⟨w1.heap.size, X0.length, none⟩ (.bool true)) = W2 at h2 B2 ⊢
      generalize w1.heap.size = g at h2 zg ⊢
      clear w1
      refine hidm ?_
      have hcl := cutL_len X0
      have hhl := hdL_len X0
      have HA : Hid (∀ j, j < (hdL X0).length + 1 → ∃ a : Nat, (cutL X0).getD j 0 = (a : Int) ∧ a ≤ X0.length) := fun j hj => cut_nat hf j (by omega)
      have HLT : Hid (∀ j, j < (hdL X0).length → (cutL X0).getD j 0 < (cutL X0).getD (j + 1) 0) := fun j hj => cut_mono (cutL_lt X0) (Nat.lt_succ_self j) (by omega)
      have HIN : Hid (∀ j a b q : Nat, j < (hdL X0).length → (cutL X0).getD j 0 = (a : Int) → (cutL X0).getD (j + 1) 0 = (b : Int) → a ≤ q → q + 1 < b → b ≤ X0.length → (X0.getD q Ins.zero).goes = false) := fun j a b q hj ha hb h1 h2 h3 => in_block hf (by omega) ha hb h1 h2 h3
      have HE := hidm (cutL_end X0)
      have HZ := hidm (cutL_zero X0)
      have HT := hidm (fun q hq hn => tgt_head (X := X0) hf (q := q) hq hn)
      have HSU := hidm (hdJ_succ X0)
      go_wp2_with (first
        | (go_at_call 18; refine (blocks_yes X0 _ _ (by omega) (HV.out.stay B2) hf).mono ?_; rintro e w3 ⟨a3, c3, rfl, r3, b3⟩; have R3 := hidm r3; clear r3))
      have h3 := (b3.out.block g (lt_of_heap h2)).trans h2
      have B3 := btrans B2 b3
      have lg3 := lt_of_heap h3
      clear h2 B2 b3
      generalize hM : (hdL X0).length = m at *
      go_loopw [3, 34] (fun at_ i wr => ∃ j : Nat, j ≤ m ∧ at_ = .int .i64 ((cutL X0).getD j 0) ∧ i = .int .i64 j ∧ wr.heap[g]? = some (boolB (hdJ X0 j) (X0.length + 1)) ∧ Kept (fun k _ => k = g) w3 wr ∧ Bel w wr) (fun _ i _ => m - (intOf i).toNat)
      case atStart => exact ⟨0, Nat.zero_le _, by rw [HZ.out], rfl, h3, Kept.refl _ _, B3⟩
      case round =>
        obtain ⟨j, hj, rfl, rfl, hg, hK, hb⟩ := hrel
        rename World => wr
        have hz := hK.size
        by_cases hlt : j < m
        · obtain ⟨gb, ob, rfl, lb, rb⟩ := R3.out (by omega)
          obtain ⟨x1, x2⟩ := rb j hlt
          obtain ⟨a, ea, la⟩ := HA.out j (by omega)
          obtain ⟨b, eb, lb'⟩ := HA.out (j + 1) (by omega)
          have hab := HLT.out j hlt
          rw [ea, eb] at hab
          have hab' : a < b := by omega
          rw [ea] at x1 ⊢
          rw [eb] at x2
          have hne := bool_ne h3 x1
          rw [← kept_cell hK lb hne] at x1 x2
          have lbr : gb < wr.heap.size := by omega
          have lgr := lt_of_heap hg
          have HIN' : Hid (∀ q, a ≤ q → q + 1 < b → (X0.getD q Ins.zero).goes = false) := fun q h1 h2 => HIN.out j a b q hlt ea eb h1 h2 lb'
          have EB := hidm eb
          have ga := bool_cell hg a (by omega)
          have fa := frozen_of hg a
          have h5 := bool_set hg a
          rw [← HSU.out j a ea] at h5
          have H5 := hidm (heap_old (o := Obj.cells #[.int .i64 a, .int .i64 b] 36) h5)
          have p1 : (a : Int) < (X0.length : Int) + 1 := by omega
          have p2 : ¬ (b : Int) ≤ a := by omega
          have p3 : ¬ (X0.length : Int) < b := by omega
          clear h5 rb ea eb HA HLT HIN HE HZ HT HSU R3
          go_wp2
          have h5 := H5.out
          have b5 := heap_new (wr.setCell ⟨g, a, none⟩ (.bool true)) (Obj.cells #[.int .i64 a, .int .i64 b] 36)
          rw [size_set] at b5
          have K5 := hK.trans ((Kept.setCell (fun k _ => k = g) wr ⟨g, a, none⟩ (.bool true) (fun _ _ => rfl)).trans (Kept.alloc (fun k _ => k = g) _ (Obj.cells #[.int .i64 a, .int .i64 b] 36)))
          have B5 := (hb.setCell (p := ⟨g, a, none⟩) zg (.bool true)).alloc (Obj.cells #[.int .i64 a, .int .i64 b] 36)
          clear H5 ga fa hg x1 x2 hb hK
          generalize ((wr.setCell ⟨g, a, none⟩ (.bool true)).alloc (Obj.cells #[.int .i64 a, .int .i64 b] 36)) = w5 at h5 b5 K5 B5 ⊢
          generalize wr.heap.size = p at b5 ⊢
          have lp := lt_of_heap b5
          go_loopw [8] (fun n wq => ∃ q : Nat, a ≤ q ∧ q < b ∧ n = .int .i64 q ∧ Bel w5 wq) (fun n _ => b - (intOf n).toNat)
          case atStart => exact ⟨a, Nat.le_refl _, hab', rfl, Bel.refl _⟩
          case round =>
            obtain ⟨q, h1, h2, rfl, hb5⟩ := hrel
            rename World => wq
            have bq := (hb5.out.block p lp).trans b5
            have y0 : wq.cell? ⟨p, 0, none⟩ = some (.int .i64 a) := cell_of bq 0
            have y1 : wq.cell? ⟨p, 1, none⟩ = some (.int .i64 b) := cell_of bq 1
            by_cases hq : q + 1 < b
            · have hq' : (q : Int) < (b : Int) - 1 := by omega
              have BB := btrans B5 hb5
              obtain ⟨bc, oc, rfl, lc, hca⟩ := HC0.out (by omega)
              obtain ⟨a0, a1, a2, a3, a4⟩ := hca q (by omega)
              rw [← (bcell BB).1 _ _ lc] at a0 a1 a2 a3 a4
              have hG := HIN' q h1 hq
              generalize X0.getD q Ins.zero = x at a0 a1 a2 a3 a4 hG
              have HG := hidm (show goesB x.o x.a x.b x.c x.i = false from hG)
              have q1 : (q : Int) < X0.length := by omega
              clear hca hG HIN'
              go_wp2_with (first
                | (go_at_call 20; refine (refGoes_any _ _ _ _ _ _).mono ?_; rw [HG.out]; rintro e w6 ⟨rfl, b6⟩))
              go_roundw
              case rel => exact ⟨q + 1, by omega, hq, by go_num, btrans hb5 b6⟩
              case measure => simp [intOf]; omega
            · have hq' : ¬ (q : Int) < (b : Int) - 1 := by omega
              clear HIN'
              go_wp2
              go_roundw
              case rel => exact ⟨j + 1, by omega, by rw [EB.out], by go_num, (hb5.out.block g (lt_of_heap h5)).trans h5, K5.trans (Kept.of_bel hb5), btrans B5 hb5⟩
              case measure => simp [intOf]; omega
        · obtain rfl : j = m := by omega
          rw [HE.out]
          have lgr := lt_of_heap hg
          clear HA HLT HIN HE HZ HSU R3 hK
          go_wp2
          go_loopw [78] (fun i wq => ∃ q : Nat, q ≤ X0.length ∧ i = .int .i64 q ∧ Bel wr wq) (fun i _ => X0.length - (intOf i).toNat)
          case atStart => exact ⟨0, Nat.zero_le _, rfl, Bel.refl _⟩
          case round =>
            obtain ⟨q, hq, rfl, hbq⟩ := hrel
            rename World => wq
            by_cases hql : q < X0.length
            · have BB := btrans hb hbq
              obtain ⟨bc, oc, rfl, lc, hca⟩ := HC0.out (by omega)
              obtain ⟨a0, a1, a2, a3, a4⟩ := hca q hql
              rw [← (bcell BB).1 _ _ lc] at a0 a1 a2 a3 a4
              have HQ := hidm (HT.out q hql)
              have hgq := (hbq.out.block g lgr).trans hg
              have lgq := lt_of_heap hgq
              have hcells := bool_cell hgq
              have HCE := hidm hcells
              clear hcells hca HT
              generalize X0.getD q Ins.zero = x at a0 a1 a2 a3 a4 HQ
              cases hn : namesB x.o x.a x.b x.c x.i with
              | false =>
                clear HQ HCE
                go_wp2_with (first
                  | (go_at_call 11; refine (target_any _ _ _ _ _ _ (by omega) _).mono ?_; rw [hn]; rintro e w6 ⟨rfl, b6⟩))
                go_roundw
                case rel => exact ⟨q + 1, by omega, by go_num, btrans (hbq.alloc _) b6⟩
                case measure => simp [intOf]; omega
              | true =>
                obtain ⟨t, ht, lt, hd⟩ := HQ.out hn
                have HTG := hidm (show tgtI x.o x.a x.b x.c x.i q = (t : Int) from ht)
                have yt := HCE.out t (by omega)
                rw [hd] at yt
                have r1 : ¬ (X0.length : Int) < t := by omega
                have r2 : (t : Int) < (X0.length : Int) + 1 := by omega
                clear HQ HCE ht hd
                go_wp2_with (first
                  | (go_at_call 11; refine (target_any _ _ _ _ _ _ (by omega) _).mono ?_; rw [HTG.out, hn]; rintro e w6 ⟨rfl, b6⟩; obtain ⟨hc6, hf6⟩ := bcell ((Bel.refl wq).alloc _ |> fun z => btrans z b6)))
                go_roundw
                case rel => exact ⟨q + 1, by omega, by go_num, btrans (hbq.alloc _) b6⟩
                case measure => simp [intOf]; omega
            · clear HT
              go_wp2_with (first
                | (go_at_call 10; refine (awake_any _).mono ?_; rintro e w7 ⟨rfl, b7⟩))
              go_ret
              exact ⟨rfl, btrans (btrans hb hbq) b7⟩
  · have hl' : 200 < X0.length := by omega
    clear hl
    go_enter Try.func5, Try.ntmps5
    go_wp2_with (first
      | (go_at_call 10; refine (awake_any _).mono ?_; rintro e w7 ⟨rfl, b7⟩))
    go_ret
    exact ⟨rfl, b7⟩

set_option maxRecDepth 100000 in
theorem lifted (os : Os) (started : os.Started) (H : Type) (enc : TypeId × Value → H) :
    ReturnsInHanded {} Try.checked os 5 .any (Rows.blockWholeSpec.pre6 enc Try.prog Try.f5 Rows.blockWholeRow.domain false) (Rows.blockWholeSpec.post enc Try.prog Try.f5 false true false false) := by
  refine returnsInHanded_of_change (C := Try.checked) own started (by kernel_rfl) Try.func5
    (ChangeSpec.witness6 (enc := enc) (C := Try.checked) false ⟨#[], #[.slice none 0 0], []⟩ 8 (by kernel_rfl) (by kernel_rfl) (by kernel_rfl) (by kernel_rfl)) ?_
  intro W base args ds gs before hval0 hW hcnd _
  have hval : ∀ (j : Nat) t v, Try.f5.params[j]? = some t → args[j]? = some v → Value.okWide Try.prog W .any base t v := hval0
  have hW' := hW
  obtain ⟨p, q, hA0, hV, rfl, hfz, hnd⟩ := hW
  have hA : DataW.TrodAll enc Try.prog W 0 (fun _ => true) true Try.f5.params.toList args.toList ds p := hA0
  rw [Try.params5] at hA hval
  obtain ⟨v0, vs0, d0, ds0, p0, q0, hargs, rfl, rfl, h0, r0⟩ := trodAll_cons hA
  obtain ⟨rfl, rfl, rfl⟩ := trodAll_nil r0
  obtain rfl : args = #[v0] := by cases args; simp_all
  obtain ⟨rfl, rfl⟩ := trodVars_none hV
  have k0 := h0
  have lt0 : ∀ x ∈ p0, x.block < W.heap.size := by obtain ⟨m, hm⟩ := k0; exact DataW.trod_lt m _ _ _ hm
  obtain ⟨X0, wy0⟩ := open_code (hval 0 22 v0 rfl rfl) h0
  clear hA0 hval0
  refine (walk W v0 X0 wy0).mono fun e W' ⟨he, bel⟩ => ?_
  subst he
  exact ⟨_, rfl, _, _, _, [], _, [], hW', trodAll_mk1 (shut_bool Try.underlying4 _), (trodAll_cons_mk (Below.trod laidOut (by kernel_rfl) (of_decide_eq_true (by kernel_rfl)) k0 bel.out lt0) trodAll_mk0), rfl, bel.out.frame _, fun h => by cases h⟩

theorem over : Rows.blockWholeRow.holds Try.pinned (OpenSpec.ofChange Rows.blockWholeSpec) :=
  OpenClaim.holds_of_wide 5 Try.f5 rfl rfl rfl rfl rfl rfl rfl ⟨rfl, rfl, rfl, rfl, rfl⟩ rfl rfl rfl rfl rfl (by kernel_rfl) Try.func5 (by kernel_rfl)
    (of_decide_eq_true (by kernel_rfl)) (by unfold Func.isWrapper; first | (rw [if_pos (by decide +kernel)]; kernel_rfl) | (rw [if_neg (by decide +kernel)]; exact ⟨rfl, rfl⟩))
    (fun os started H enc _ => lifted os started H enc)

theorem proved : Rows.BlockWholeSaid :=
  over
#print axioms proved
end Go.Proofs.Ytdhnlloohjehgaa.blockWhole
