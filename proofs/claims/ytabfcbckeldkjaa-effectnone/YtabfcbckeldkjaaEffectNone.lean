/-
  The law 'EffectNone' of delayslotlaw03 returns true at all arguments: what would write register 0 writes none; what reads the same two in another order reads the same.
  Conditions: none.
-/
import Derived.Test.YtabfcbckeldkjaaRows
import Derived.WalkKit
import Derived.ProofKit
import Derived.OpenShut
import Derived.ShutString
import Derived.ChangeOld
import Derived.Below
import Derived.Test.YtabfcbckeldkjaaAwake3
import Derived.Test.YtabfcbckeldkjaaRdFacts
import Derived.Test.YtabfcbckeldkjaaLater
import Derived.Deep.RegionWith
namespace Go.Proofs.Ytabfcbckeldkjaa.effectNone
open Go.ChangeShapes Go.WideShapes Go.ChangeAt Go.RowKit
open Go.ChangeMaps (open_string shut_string)
set_option linter.unusedVariables false

theorem own : ownKnob Try.prog.godebug = none := by kernel_rfl
theorem right3 {o a b c : Int} (h1 : 0 ≤ o ∧ o ≤ 8) (h2 : 0 ≤ a ∧ a ≤ 31) (h3 : 0 ≤ b ∧ b ≤ 31) (h4 : 0 ≤ c ∧ c ≤ 31) : rightB (1 + o) a b c 0 = true := by
  have hr : regsOf (1 + o) = 3 := by unfold regsOf; omega
  have hl : leastOf (1 + o) = 0 := by unfold leastOf; omega
  have hm : mostOf (1 + o) = 0 := by unfold mostOf; omega
  have ho : okOp (1 + o) = true := by unfold okOp; simp; omega
  unfold rightB
  rw [hr, hl, hm, ho]
  simp [regB]; omega
theorem facts {o a b c : Int} (h1 : 0 ≤ o ∧ o ≤ 8) (h2 : 0 ≤ a ∧ a ≤ 31) (h3 : 0 ≤ b ∧ b ≤ 31) (h4 : 0 ≤ c ∧ c ≤ 31) : rd1 (1 + o) a b c 0 = b ∧ rd2 (1 + o) a b c 0 = c ∧ wr1 (1 + o) a b c 0 = a := by
  have hR := right3 h1 h2 h3 h4
  have e1 : rd1 (1 + o) a b c 0 = rA (1 + o) a b 0 := by simp [rd1, hR]
  have e2 : rd2 (1 + o) a b c 0 = rB (1 + o) b c := by simp [rd2, hR]
  have e3 : wr1 (1 + o) a b c 0 = wA (1 + o) a 0 := by simp [wr1, hR]
  rw [e1, e2, e3]
  unfold rA rB wA
  omega
theorem same {o a b c : Int} (h1 : 0 ≤ o ∧ o ≤ 8) (h2 : 0 ≤ a ∧ a ≤ 31) (h3 : 0 ≤ b ∧ b ≤ 31) (h4 : 0 ≤ c ∧ c ≤ 31) : rdL (1 + o) a c b 0 = rdL (1 + o) 0 b c 0 := by
  obtain ⟨p1, p2, _⟩ := facts h1 h2 h4 h3
  obtain ⟨q1, q2, _⟩ := facts h1 (a := 0) (by omega) h3 h4
  unfold rdL
  rw [p1, p2, q1, q2, show lo2 c b = lo2 b c from by unfold lo2; omega, show hi2 c b = hi2 b c from by unfold hi2; omega]

set_option maxHeartbeats 2000000 in
theorem walk (x0 : Int) (wx0 : (Lit.int .u8 x0).wf = true) (x1 : Int) (wx1 : (Lit.int .u8 x1).wf = true) (x2 : Int) (wx2 : (Lit.int .u8 x2).wf = true) (x3 : Int) (wx3 : (Lit.int .u8 x3).wf = true) (w : World) :
    Calls Try.prog 6 #[.int .u8 x0, .int .u8 x1, .int .u8 x2, .int .u8 x3] w fun e w' => e = .returned (.bool true) ∧ Bel w w' := by
  obtain ⟨d00, d01⟩ := wf_u8 wx0
  obtain ⟨d10, d11⟩ := wf_u8 wx1
  obtain ⟨d20, d21⟩ := wf_u8 wx2
  obtain ⟨d30, d31⟩ := wf_u8 wx3
  have HE : Hid _ := same (o := x0 % 9) (a := x1 % 32) (b := x2 % 32) (c := x3 % 32) (by omega) (by omega) (by omega) (by omega)
  have hw1 := (facts (o := x0 % 9) (a := 0) (b := x2 % 32) (c := x3 % 32) (by omega) (by omega) (by omega) (by omega)).2.2
  have hw2 := (facts (o := x0 % 9) (a := x1 % 32) (b := x3 % 32) (c := x2 % 32) (by omega) (by omega) (by omega) (by omega)).2.2
  have hl := len_bd (1 + x0 % 9) 0 (x2 % 32) (x3 % 32) 0
  go_enter Try.func6, Try.ntmps6
  go_wp2_with fail
  have hB : Bel w ((w.alloc (Obj.cells #[.int .i64 (1 + x0 % 9), .int .i64 0, .int .i64 (x2 % 32), .int .i64 (x3 % 32), .int .i64 0] 23)).alloc (Obj.cells #[.int .i64 (1 + x0 % 9), .int .i64 (x1 % 32), .int .i64 (x3 % 32), .int .i64 (x2 % 32), .int .i64 0] 23)) := ((Bel.refl w).alloc _).alloc _
  have hz := later_size (w := (w.alloc (Obj.cells #[.int .i64 (1 + x0 % 9), .int .i64 0, .int .i64 (x2 % 32), .int .i64 (x3 % 32), .int .i64 0] 23)).alloc (Obj.cells #[.int .i64 (1 + x0 % 9), .int .i64 (x1 % 32), .int .i64 (x3 % 32), .int .i64 (x2 % 32), .int .i64 0] 23)) (n := w.heap.size + 1) (by simp)
  obtain ⟨c0, c1, c2, c3, c4⟩ := box5 w (1 + x0 % 9) 0 (x2 % 32) (x3 % 32) 0 23
  have hb1 : Bel (w.alloc (Obj.cells #[.int .i64 (1 + x0 % 9), .int .i64 0, .int .i64 (x2 % 32), .int .i64 (x3 % 32), .int .i64 0] 23)) ((w.alloc (Obj.cells #[.int .i64 (1 + x0 % 9), .int .i64 0, .int .i64 (x2 % 32), .int .i64 (x3 % 32), .int .i64 0] 23)).alloc (Obj.cells #[.int .i64 (1 + x0 % 9), .int .i64 (x1 % 32), .int .i64 (x3 % 32), .int .i64 (x2 % 32), .int .i64 0] 23)) := (Bel.refl _).alloc _
  have c0 := later_down (p := fun w' => w'.cell? ⟨w.heap.size, 0, none⟩ = _) hb1 c0
  have c1 := later_down (p := fun w' => w'.cell? ⟨w.heap.size, 1, none⟩ = _) hb1 c1
  have c2 := later_down (p := fun w' => w'.cell? ⟨w.heap.size, 2, none⟩ = _) hb1 c2
  have c3 := later_down (p := fun w' => w'.cell? ⟨w.heap.size, 3, none⟩ = _) hb1 c3
  have c4 := later_down (p := fun w' => w'.cell? ⟨w.heap.size, 4, none⟩ = _) hb1 c4
  obtain ⟨e0, e1, e2, e3, e4⟩ := box5 (w.alloc (Obj.cells #[.int .i64 (1 + x0 % 9), .int .i64 0, .int .i64 (x2 % 32), .int .i64 (x3 % 32), .int .i64 0] 23)) (1 + x0 % 9) (x1 % 32) (x3 % 32) (x2 % 32) 0 23
  rw [show (w.alloc (Obj.cells #[.int .i64 (1 + x0 % 9), .int .i64 0, .int .i64 (x2 % 32), .int .i64 (x3 % 32), .int .i64 0] 23)).heap.size = w.heap.size + 1 from by simp] at e0 e1 e2 e3 e4
  clear hb1
  generalize (w.alloc (Obj.cells #[.int .i64 (1 + x0 % 9), .int .i64 0, .int .i64 (x2 % 32), .int .i64 (x3 % 32), .int .i64 0] 23)).alloc (Obj.cells #[.int .i64 (1 + x0 % 9), .int .i64 (x1 % 32), .int .i64 (x3 % 32), .int .i64 (x2 % 32), .int .i64 0] 23) = w1 at hB hz c0 c1 c2 c3 c4 e0 e1 e2 e3 e4 ⊢
  haveI := Later.ne w1
  obtain ⟨u1, E⟩ := later_start w1
  rw [← E]
  clear E
  go_region_with (first | (go_at_call 9; refine (reads_any _ _ _ _ _ _).mono ?_; rintro e w2 ⟨v2, rfl, hown2, hg2⟩; obtain ⟨u2, rfl⟩ := later_next_drew hg2) | (go_at_call 9; refine (reads_any _ _ _ _ _ _).mono ?_; rintro e w3 ⟨v3, rfl, hown3, hg3⟩; obtain ⟨u3, rfl⟩ := later_next hg3))
  all_goals
    rw [HE.out] at hown3
    obtain ⟨ao2, cap2, rfl, hv2⟩ := ints_view hown2
    obtain ⟨ao3, cap3, rfl, hv3⟩ := ints_view hown3
    have hc32 : Hid _ := (bcell hg3).1
    have hs32 := hg3.size
    have hB3 := btrans hB u3.is_
    have hz3 := later_down (p := fun w' => w.heap.size + 1 < w'.heap.size) u3.is_ hz
    have c0 := later_down (p := fun w' => w'.cell? ⟨w.heap.size, 0, none⟩ = _) u3.is_ c0
    have e0 := later_down (p := fun w' => w'.cell? ⟨w.heap.size + 1, 0, none⟩ = _) u3.is_ e0
    have c1 := later_down (p := fun w' => w'.cell? ⟨w.heap.size, 1, none⟩ = _) u3.is_ c1
    have e1 := later_down (p := fun w' => w'.cell? ⟨w.heap.size + 1, 1, none⟩ = _) u3.is_ e1
    have c2 := later_down (p := fun w' => w'.cell? ⟨w.heap.size, 2, none⟩ = _) u3.is_ c2
    have e2 := later_down (p := fun w' => w'.cell? ⟨w.heap.size + 1, 2, none⟩ = _) u3.is_ e2
    have c3 := later_down (p := fun w' => w'.cell? ⟨w.heap.size, 3, none⟩ = _) u3.is_ c3
    have e3 := later_down (p := fun w' => w'.cell? ⟨w.heap.size + 1, 3, none⟩ = _) u3.is_ e3
    have c4 := later_down (p := fun w' => w'.cell? ⟨w.heap.size, 4, none⟩ = _) u3.is_ c4
    have e4 := later_down (p := fun w' => w'.cell? ⟨w.heap.size + 1, 4, none⟩ = _) u3.is_ e4
    clear hown2 hown3 hg2 hg3 hz HE
    generalize u3.at_ = w3 at hc32 hs32 hB3 hz3 c0 c1 c2 c3 c4 e0 e1 e2 e3 e4 hv3 ⊢
    haveI := Later.ne w3
    generalize rdL (1 + x0 % 9) 0 (x2 % 32) (x3 % 32) 0 = L at hl hv2 hv3 ⊢
    go_wp2
    go_loopw [46] (fun k wr => ∃ (j : Nat) (u : Later w3), j ≤ L.length ∧ k = .int .i64 j ∧ wr = u.at_) (fun k _ => L.length - (intOf k).toNat)
    case atStart => exact ⟨0, ⟨w3, Bel.refl _⟩, Nat.zero_le _, rfl, rfl⟩
    case round =>
      obtain ⟨j, u, hj, rfl, rfl⟩ := hrel
      by_cases hlt : j < L.length
      · obtain ⟨g2, rfl, q1, q2, q3, q4, q5⟩ := hv2 (by omega)
        obtain ⟨g3, rfl, r1, r2, r3, r4, r5⟩ := hv3 (by omega)
        have q6 := later_cell ((hc32.out g2 j q2).trans (q5 j hlt)) (by omega)
        have r6 := later_cell (r5 j hlt) r2
        have hj0 : (0 : Int) ≤ (j : Int) := by omega
        have hj1 : (j : Int) < (L.length : Int) := by omega
        generalize L.getD j 0 = x at q6 r6
        clear q5 r5 hv2 hv3 hc32
        go_wp2
        refine wp_region_later (by kernel_rfl) (by kernel_rfl) ?_
        repeat (go_big_quiet_step (fail))
        refine wpQuiet_nil ?_
        rintro _ ⟨u9, rfl⟩
        go_wp2
        go_roundw
        case rel => exact ⟨j + 1, u9, by omega, by go_num, rfl⟩
        case measure => simp [intOf]; omega
      · clear hv2 hv3 hc32
        go_wp2_with (first | (go_at_call 13; refine (later_of (writes_any _ _ _ _ _ _)).mono ?_; rintro e _ ⟨rfl, u7, rfl⟩) | (go_at_call 14; refine (later_of (awake3_any _)).mono ?_; rintro e _ ⟨rfl, u8, rfl⟩))
        go_ret
        exact ⟨rfl, btrans hB3 u8.is_⟩

set_option maxRecDepth 100000 in
theorem lifted (os : Os) (started : os.Started) (H : Type) (enc : TypeId × Value → H) :
    ReturnsInHanded {} Try.checked os 6 .any (Rows.effectNoneSpec.pre6 enc Try.prog Try.f6 Rows.effectNoneRow.domain false) (Rows.effectNoneSpec.post enc Try.prog Try.f6 false true false false) := by
  refine returnsInHanded_of_change (C := Try.checked) own started (by kernel_rfl) Try.func6
    (ChangeSpec.witness6 (enc := enc) (C := Try.checked) false ⟨#[], #[.int .u8 0, .int .u8 0, .int .u8 0, .int .u8 0], []⟩ 8 (by kernel_rfl) (by kernel_rfl) (by kernel_rfl) (by kernel_rfl)) ?_
  intro W base args ds gs before hval0 hW hcnd _
  have hval : ∀ (j : Nat) t v, Try.f6.params[j]? = some t → args[j]? = some v → Value.okWide Try.prog W .any base t v := hval0
  have hW' := hW
  obtain ⟨p, q, hA0, hV, rfl, hfz, hnd⟩ := hW
  have hA : DataW.TrodAll enc Try.prog W 0 (fun _ => true) true Try.f6.params.toList args.toList ds p := hA0
  rw [Try.params6] at hA hval
  obtain ⟨v0, vs0, d0, ds0, p0, q0, hargs, rfl, rfl, h0, r0⟩ := trodAll_cons hA
  obtain ⟨v1, vs1, d1, ds1, p1, q1, rfl, rfl, rfl, h1, r1⟩ := trodAll_cons r0
  obtain ⟨v2, vs2, d2, ds2, p2, q2, rfl, rfl, rfl, h2, r2⟩ := trodAll_cons r1
  obtain ⟨v3, vs3, d3, ds3, p3, q3, rfl, rfl, rfl, h3, r3⟩ := trodAll_cons r2
  obtain ⟨rfl, rfl, rfl⟩ := trodAll_nil r3
  obtain rfl : args = #[v0, v1, v2, v3] := by cases args; simp_all
  obtain ⟨rfl, rfl⟩ := trodVars_none hV
  obtain ⟨x0, rfl, rfl, rfl, wx0⟩ := open_int Try.underlying5 (hval 0 5 v0 rfl rfl) h0
  obtain ⟨x1, rfl, rfl, rfl, wx1⟩ := open_int Try.underlying5 (hval 1 5 v1 rfl rfl) h1
  obtain ⟨x2, rfl, rfl, rfl, wx2⟩ := open_int Try.underlying5 (hval 2 5 v2 rfl rfl) h2
  obtain ⟨x3, rfl, rfl, rfl, wx3⟩ := open_int Try.underlying5 (hval 3 5 v3 rfl rfl) h3
  clear hA0 hval0
  refine (walk x0 wx0 x1 wx1 x2 wx2 x3 wx3 W).mono fun e W' ⟨he, bel⟩ => ?_
  subst he
  exact ⟨_, rfl, _, _, _, [], _, [], hW', trodAll_mk1 (shut_bool Try.underlying4 _), (trodAll_cons_mk (shut_int Try.underlying5 wx0) (trodAll_cons_mk (shut_int Try.underlying5 wx1) (trodAll_cons_mk (shut_int Try.underlying5 wx2) (trodAll_cons_mk (shut_int Try.underlying5 wx3) trodAll_mk0)))), rfl, bel.out.frame _, fun h => by cases h⟩

theorem over : Rows.effectNoneRow.holds Try.pinned (OpenSpec.ofChange Rows.effectNoneSpec) :=
  OpenClaim.holds_of_wide 6 Try.f6 rfl rfl rfl rfl rfl rfl rfl ⟨rfl, rfl, rfl, rfl, rfl⟩ rfl rfl rfl rfl rfl (by kernel_rfl) Try.func6 (by kernel_rfl)
    (of_decide_eq_true (by kernel_rfl)) (by unfold Func.isWrapper; first | (rw [if_pos (by decide +kernel)]; kernel_rfl) | (rw [if_neg (by decide +kernel)]; exact ⟨rfl, rfl⟩))
    (fun os started H enc _ => lifted os started H enc)

theorem proved : Rows.EffectNoneSaid :=
  over
#print axioms proved
end Go.Proofs.Ytabfcbckeldkjaa.effectNone
