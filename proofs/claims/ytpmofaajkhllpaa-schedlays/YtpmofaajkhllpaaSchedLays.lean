/-
  The law 'SchedLays' of delayslotlaw11 returns true at every list and every order: the list is laid as the document says, and the instructions at the order's places are picked (asked of at most 40 instructions, and orders of at most 100 places).
  Conditions: none.
-/
import Derived.Test.YtpmofaajkhllpaaRows
import Derived.WalkKit
import Derived.ProofKit
import Derived.OpenShut
import Derived.ShutString
import Derived.ChangeOld
import Derived.Below
import Derived.Carry
import Derived.Test.YtpmofaajkhllpaaUl11
namespace Go.Proofs.Ytpmofaajkhllpaa.schedLays
open Go.ChangeShapes Go.WideShapes Go.ChangeAt Go.RowKit
open Go.ChangeMaps (open_string shut_string)
set_option linter.unusedVariables false

theorem laidOut : laidOutB Try.prog = true := by kernel_rfl
theorem own : ownKnob Try.prog.godebug = none := by kernel_rfl

set_option maxRecDepth 20000 in
set_option maxHeartbeats 2000000 in
theorem walk (w : World) (y0 : Value) (X0 : List Ins) (wy0 : Code w y0 X0) (ry0 : ∀ ao n c, y0 = .slice ao n c → n ≤ c) (y1 : Value) (X1 : List Int) (wy1 : Ints .i64 w y1 X1) (vy1 : ∀ x ∈ X1, (Lit.int .i64 x).wf = true) :
    Calls Try.prog 4 #[y0, y1] w fun e w' => e = .returned (.bool true) ∧ Bel w w' := by
  by_cases hs : X0.length ≤ 40 ∧ X1.length ≤ 100
  · obtain ⟨hs, ht⟩ := hs
    have HW := hidm wy0
    have HV := hidm wy1
    obtain ⟨ao, cap, rfl, hc⟩ := wy0
    obtain ⟨zo, zcap, rfl, hz⟩ := wy1
    have HC := hidm hc
    have HZ := hidm hz
    have hpk := fun ww (hb : Bel w ww) => pick_any X0 X1 (.slice ao X0.length cap) (.slice zo X1.length zcap) ww (by omega) (by omega) (code_bel HW.out hb) (HV.out.bel hb)
    have hl := fun ww (hb : Bel w ww) => lay_any X0 (.slice ao X0.length cap) ww (by omega) (code_bel HW.out hb) ry0
    have hr := fun ww (hb : Bel w ww) => refLay_any X0 (.slice ao X0.length cap) ww (by omega) (code_bel HW.out hb) ry0
    clear hc hz ry0 vy1
    go_enter Try.func4, Try.ntmps4
    go_wp2_with (go_at_call 14; refine (hpk w (Bel.refl _)).mono ?_; rintro e w1 ⟨g, c1, rfl, hg, hgp, b1⟩; have HGP := hidm hgp; have hgl := lt_of_heap hgp; clear hgp)
    go_loopw [28] (fun i wr => ∃ k : Nat, k ≤ X1.length ∧ i = .int .i64 k ∧ Bel w1 wr) (fun i _ => X1.length - (intOf i).toNat)
    case atStart => exact ⟨0, Nat.zero_le _, rfl, Bel.refl _⟩
    case round =>
      obtain ⟨k, hk, rfl, hB⟩ := hrel
      rename World => wk
      have hBw := btrans b1 hB
      by_cases hlt : k < X1.length
      · obtain ⟨bo, oo, rfl, hbo, hcz⟩ := HZ.out (by omega)
        have c0 := ((bcell hBw).1 bo (oo + k) hbo).trans (hcz k hlt)
        rw [show X1[k]?.getD 0 = X1.getD k 0 from rfl] at c0
        obtain ⟨p0, p1, p2, p3, p4⟩ := codeB_at HGP.out k (by rw [List.length_map]; exact hlt)
        have eP : (X1.map (pickI X0)).getD k Ins.zero = pickI X0 (X1.getD k 0) := by simp [List.getD, hlt]
        rw [eP] at p0 p1 p2 p3 p4
        have p0 := ((bcell hB).1 _ _ hgl).trans p0
        have p1 := ((bcell hB).1 _ _ hgl).trans p1
        have p2 := ((bcell hB).1 _ _ hgl).trans p2
        have p3 := ((bcell hB).1 _ _ hgl).trans p3
        have p4 := ((bcell hB).1 _ _ hgl).trans p4
        have hgk : g < wk.heap.size := Nat.lt_of_lt_of_le hgl hB.size
        have hbk : bo < wk.heap.size := Nat.lt_of_lt_of_le hbo hBw.size
        have hkI : (k : Int) < X1.length := by omega
        clear hcz HZ HGP hl hr hpk eP HW HV
        generalize X1.getD k 0 = z at c0 p0 p1 p2 p3 p4
        by_cases hy : 0 ≤ z ∧ z < X0.length
        · obtain ⟨j, rfl⟩ : ∃ j : Nat, z = j := ⟨z.toNat, by omega⟩
          obtain ⟨b, o, rfl, hb, hca⟩ := HC.out (by omega)
          obtain ⟨a0, a1, a2, a3, a4⟩ := (hca.stay hb hBw) j (by omega)
          rw [show X0.getD j Ins.zero = xAt X0 j from rfl] at a0 a1 a2 a3 a4
          rw [pick_yes rfl (by omega)] at p0 p1 p2 p3 p4
          have hbk2 : b < wk.heap.size := Nat.lt_of_lt_of_le hb hBw.size
          have hy1 := hy.1
          have hy2 := hy.2
          clear hca HC hy
          generalize xAt X0 j = x at a0 a1 a2 a3 a4 p0 p1 p2 p3 p4
          go_wp2
          go_quiet (fail)
          go_wp2
          go_roundw
          case rel => exact ⟨k + 1, by omega, by go_num, btrans (hB.alloc _) (Bel.drewN _ _)⟩
          case measure => simp [intOf]; omega
        · rw [pick_no hy] at p0 p1 p2 p3 p4
          rw [show Ins.zero.o = 0 from rfl] at p0
          rw [show Ins.zero.a = 0 from rfl] at p1
          rw [show Ins.zero.b = 0 from rfl] at p2
          rw [show Ins.zero.c = 0 from rfl] at p3
          rw [show Ins.zero.i = 0 from rfl] at p4
          clear HC
          by_cases h0 : 0 ≤ z
          · have h1 : ¬ z < (X0.length : Int) := fun q => hy ⟨h0, q⟩
            clear hy
            go_wp2
            go_quiet (fail)
            go_wp2
            go_roundw
            case rel => exact ⟨k + 1, by omega, by go_num, btrans (hB.alloc _) (Bel.drewN _ _)⟩
            case measure => simp [intOf]; omega
          · clear hy
            go_wp2
            go_quiet (fail)
            go_wp2
            go_roundw
            case rel => exact ⟨k + 1, by omega, by go_num, btrans (hB.alloc _) (Bel.drewN _ _)⟩
            case measure => simp [intOf]; omega
      · obtain rfl : k = X1.length := by omega
        go_wp2_with (first
          | (have q := t3; go_at_call 10; refine (awake_any _).mono ?_; rintro e w5 ⟨rfl, b5⟩)
          | (have q := t2; go_at_call 11; refine (same_yesU M _ _ _ ((own_ints O1.out).bel b3) (own_ints O2.out) (by have := layS_len HM.out; omega)).mono ?_; rintro e w4 ⟨rfl, b4⟩; have t3 : Hid True := True.intro)
          | (have q := t1; go_at_call 16; refine (hr w2 (btrans hBw b2)).mono ?_; rintro e w3 ⟨v3, M2, rfl, hM2, o2, b3⟩; obtain rfl := layS_one HM.out hM2; have O2 := hidm o2; clear o2 hM2; have t2 : Hid True := True.intro)
          | (go_at_call 15; refine (hl wk hBw).mono ?_; rintro e w2 ⟨v2, M, rfl, hM, o1, b2⟩; have HM := hidm hM; have O1 := hidm o1; clear hM o1; have t1 : Hid True := True.intro))
        go_ret
        exact ⟨rfl, btrans hBw (btrans b2 (btrans b3 (btrans b4 b5)))⟩
  · obtain ⟨ao, cap, rfl, hc⟩ := wy0
    obtain ⟨zo, zcap, rfl, hz⟩ := wy1
    clear hc hz
    by_cases h1 : X0.length ≤ 40
    · have h2 : ¬ X1.length ≤ 100 := fun q => hs ⟨h1, q⟩
      clear hs
      go_enter Try.func4, Try.ntmps4
      go_wp2_with (go_at_call 10; refine (awake_any _).mono ?_; rintro e w4 ⟨rfl, b4⟩)
      go_ret
      exact ⟨rfl, b4⟩
    · clear hs
      go_enter Try.func4, Try.ntmps4
      go_wp2_with (go_at_call 10; refine (awake_any _).mono ?_; rintro e w4 ⟨rfl, b4⟩)
      go_ret
      exact ⟨rfl, b4⟩

set_option maxRecDepth 100000 in
theorem lifted (os : Os) (started : os.Started) (H : Type) (enc : TypeId × Value → H) :
    ReturnsInHanded {} Try.checked os 4 .any (Rows.schedLaysSpec.pre6 enc Try.prog Try.f4 Rows.schedLaysRow.domain false) (Rows.schedLaysSpec.post enc Try.prog Try.f4 false true false false) := by
  refine returnsInHanded_of_change (C := Try.checked) own started (by kernel_rfl) Try.func4
    (ChangeSpec.witness6 (enc := enc) (C := Try.checked) false ⟨#[], #[.slice none 0 0, .slice none 0 0], []⟩ 8 (by kernel_rfl) (by kernel_rfl) (by kernel_rfl) (by kernel_rfl)) ?_
  intro W base args ds gs before hval0 hW hcnd _
  have hval : ∀ (j : Nat) t v, Try.f4.params[j]? = some t → args[j]? = some v → Value.okWide Try.prog W .any base t v := hval0
  have hW' := hW
  obtain ⟨p, q, hA0, hV, rfl, hfz, hnd⟩ := hW
  have hA : DataW.TrodAll enc Try.prog W 0 (fun _ => true) true Try.f4.params.toList args.toList ds p := hA0
  rw [Try.params4] at hA hval
  obtain ⟨v0, vs0, d0, ds0, p0, q0, hargs, rfl, rfl, h0, r0⟩ := trodAll_cons hA
  obtain ⟨v1, vs1, d1, ds1, p1, q1, rfl, rfl, rfl, h1, r1⟩ := trodAll_cons r0
  obtain ⟨rfl, rfl, rfl⟩ := trodAll_nil r1
  obtain rfl : args = #[v0, v1] := by cases args; simp_all
  obtain ⟨rfl, rfl⟩ := trodVars_none hV
  have k0 := h0
  have lt0 : ∀ x ∈ p0, x.block < W.heap.size := by obtain ⟨m, hm⟩ := k0; exact DataW.trod_lt m _ _ _ hm
  obtain ⟨X0, wy0, ry0⟩ := open_codeR (hval 0 22 v0 rfl rfl) h0
  have k1 := h1
  have lt1 : ∀ x ∈ p1, x.block < W.heap.size := by obtain ⟨m, hm⟩ := k1; exact DataW.trod_lt m _ _ _ hm
  obtain ⟨X1, wy1, vy1⟩ := open_intsK Try.underlying25 Try.underlying3 (by kernel_rfl) (hval 1 25 v1 rfl rfl) h1
  clear hA0 hval0
  refine (walk W v0 X0 wy0 ry0 v1 X1 wy1 vy1).mono fun e W' ⟨he, bel⟩ => ?_
  subst he
  exact ⟨_, rfl, _, _, _, [], _, [], hW', trodAll_mk1 (shut_bool Try.underlying4 _), (trodAll_cons_mk (Below.trod laidOut (by kernel_rfl) (of_decide_eq_true (by kernel_rfl)) k0 bel.out lt0) (trodAll_cons_mk (Below.trod laidOut (by kernel_rfl) (of_decide_eq_true (by kernel_rfl)) k1 bel.out lt1) trodAll_mk0)), rfl, bel.out.frame _, fun h => by cases h⟩

theorem over : Rows.schedLaysRow.holds Try.pinned (OpenSpec.ofChange Rows.schedLaysSpec) :=
  OpenClaim.holds_of_wide 4 Try.f4 rfl rfl rfl rfl rfl rfl rfl ⟨rfl, rfl, rfl, rfl, rfl⟩ rfl rfl rfl rfl rfl (by kernel_rfl) Try.func4 (by kernel_rfl)
    (of_decide_eq_true (by kernel_rfl)) (by unfold Func.isWrapper; first | (rw [if_pos (by decide +kernel)]; kernel_rfl) | (rw [if_neg (by decide +kernel)]; exact ⟨rfl, rfl⟩))
    (fun os started H enc _ => lifted os started H enc)

theorem proved : Rows.SchedLaysSaid :=
  over
#print axioms proved
end Go.Proofs.Ytpmofaajkhllpaa.schedLays
