/-
  The law 'PipeLate' of delayslotlaw08 returns true at all words: what is loaded is not there for the next instruction, but for the one behind that; what is read from the input likewise.
  Conditions: none.
-/
import Derived.Test.YthkhlkcdhalkfaaRows
import Derived.WalkKit
import Derived.ProofKit
import Derived.OpenShut
import Derived.ShutString
import Derived.ChangeOld
import Derived.Below
import Derived.Carry
import Derived.Test.YthkhlkcdhalkfaaPv
import Derived.Test.YthkhlkcdhalkfaaApp7
namespace Go.Proofs.Ythkhlkcdhalkfaa.pipeLate
open Go.ChangeShapes Go.WideShapes Go.ChangeAt Go.RowKit
open Go.ChangeMaps (open_string shut_string)
set_option linter.unusedVariables false

theorem laidOut : laidOutB Try.prog = true := by kernel_rfl
theorem own : ownKnob Try.prog.godebug = none := by kernel_rfl
theorem code_at {w : World} {ao : Option Addr} {cap : Nat} {X : List Ins} (h : Code w (.slice ao X.length cap) X) : 0 < X.length → ∃ b o, ao = some ⟨b, o, none⟩ ∧ b < w.heap.size ∧ CodeAt w b o X := by
  obtain ⟨ao', cap', e, h⟩ := h
  cases e
  exact h
/-- A run that tells two numbers. -/
theorem two_told {W : World} {ao : Option Addr} {c : Nat} {x y : Int} (h : Ints .i64 W (.slice ao ([x, y] : List Int).length c) [x, y]) : ∃ b o, ao = some ⟨b, o, none⟩ ∧ b < W.heap.size ∧ W.cell? ⟨b, o, none⟩ = some (.int .i64 x) ∧ W.cell? ⟨b, o + 1, none⟩ = some (.int .i64 y) := by
  obtain ⟨ao', cap, e, r⟩ := h
  injection e with e1 e2 e3
  subst e1
  obtain ⟨b, o, e, hb, hc⟩ := r (by simp)
  exact ⟨b, o, e, hb, hc 0 (by simp), hc 1 (by simp)⟩
theorem own_lit (w : World) (X : List Ins) (n : Nat) (hX : X.length = n) (hn : n ≤ 1000) : (w.alloc (.cells (flatC X).toArray 34)).ownsRow w.heap.size 34 5 (.slice (some ⟨w.heap.size, 0, none⟩) n n) X.length (flatC X) := by
  subst hX
  refine ⟨flatC_len X, .inr ⟨w.heap.size, X.length, (flatC X).toArray, rfl, Nat.le_refl _, heap_alloc_new w _, Nat.le_refl _, by unfold maxLen; omega, ?_, ?_⟩⟩
  · simp [flatC_len]
  · rw [← flatC_len]; simp
theorem own_ints1 (V : World) (X : List Int) (n k : Nat) (hX : X.length = n) (hn : n ≤ 1000) (hk : V.heap.size = k) : (V.alloc (.cells (X.map (Value.int .i64)).toArray 3)).ownsRow k 3 1 (.slice (some ⟨k, 0, none⟩) n n) X.length (X.map (Value.int .i64)) := by
  subst hX hk
  refine ⟨by simp, .inr ⟨V.heap.size, X.length, (X.map (Value.int .i64)).toArray, rfl, Nat.le_refl _, heap_alloc_new V _, Nat.le_refl _, by unfold maxLen; omega, by simp, by simp [List.take_of_length_le]⟩⟩
theorem row_grown {W W' : World} {n₀ n sz : Nat} {v : Value} {xs : List Value} {e : TypeId} {row : Option Nat} (h : W.ownsRow n₀ e sz v n xs) (hg : W.grownBy W' row) (hk : v.ownBlock ≠ row) : W'.ownsRow n₀ e sz v n xs := by
  refine ⟨h.1, ?_⟩
  rcases h.2 with hn | ⟨g, cap, cur, rfl, hb, hgg, rest⟩
  · exact .inl hn
  · exact .inr ⟨g, cap, cur, rfl, hb, (hg.block g (lt_of_heap hgg) hk).trans hgg, rest⟩
theorem heap_at (V : World) (o : Obj) (k : Nat) (hk : V.heap.size = k) : (V.alloc o).heap[k]? = some o := by subst hk; exact heap_new V o
def setX : List Ins := [⟨20, 0, 0, 0, 1⟩, ⟨0, 0, 0, 0, 0⟩, ⟨13, 4, 0, 0, 0⟩, ⟨20, 0, 0, 0, 1⟩, ⟨0, 0, 0, 0, 0⟩]
def endX (b : Bool) : List Ins := [if b = true then ⟨20, 0, 0, 0, 1⟩ else ⟨12, 4, 0, 0, 0⟩, ⟨20, 0, 0, 0, 2⟩, ⟨20, 0, 0, 0, 2⟩, ⟨20, 0, 0, 0, 0⟩]
theorem late_code (b : Bool) : setX ++ endX b = lateX b := rfl
/-- The run, and what it tells. -/
theorem run_late (b : Bool) (old v : Int) (cv iv : Value) (W : World) (hc : Code W cv (lateX b)) (hi : IntsC W iv (lateI b old v)) (ho : Wd old) (hv : Wd v) :
    Calls Try.prog 14 #[cv, .int .i64 1, iv, .int .i64 50] W fun e W' => ∃ (b o ca : Nat) (am : Option Addr) (nm cm : Nat), e = .returned (.agg #[.int .i64 1, .int .i64 12, .slice (some ⟨b, o, none⟩) 2 ca, .slice am nm cm]) ∧ W'.cell? ⟨b, o, none⟩ = some (.int .i64 old) ∧ W'.cell? ⟨b, o + 1, none⟩ = some (.int .i64 v) ∧ b < W'.heap.size ∧ Bel W W' := by
  refine (prun_said (lateX b) cv iv 1 50 (lateI b old v) W hc hi (by cases b <;> decide) (by omega)).mono ?_
  rintro e W' ⟨t, s, O, M, ao, ca, am, cm, hS, rfl, o1, hm, hB, _⟩
  obtain ⟨rfl, rfl, rfl⟩ := said_late ho hv hS
  obtain ⟨b, o, rfl, hb, c1, c2⟩ := two_told o1
  exact ⟨b, o, ca, am, _, cm, rfl, c1, c2, hb, hB⟩

set_option maxRecDepth 20000 in
set_option maxHeartbeats 2000000 in
theorem walk (w : World) (x0 : Int) (wx0 : (Lit.int .i32 x0).wf = true) (x1 : Int) (wx1 : (Lit.int .i32 x1).wf = true) (x2 : Bool) :
    Calls Try.prog 10 #[.int .i32 x0, .int .i32 x1, .bool x2] w fun e w' => e = .returned (.bool true) ∧ Bel w w' := by
  have hv0 := wf_i32 wx0
  have hv1 := wf_i32 wx1
  have w0 : Wd x0 := hv0
  have w1' : Wd x1 := hv1
  have W0 := hidm w0
  have W1 := hidm w1'
  clear w0 w1'
  cases x2
  · go_enter Try.func10, Try.ntmps10
    go_wp2_with (at_builtin; refine Hid.out ?_)
    refine hidm ?_
    refine append_code _ rfl (.tmp 30) (.tmp 35) rfl w.heap.size _ setX (endX false) rfl ((((own_lit w setX 5 rfl (by omega)).alloc _).alloc _).alloc _) ⟨_, _, rfl⟩ (some ⟨w.heap.size + 1 + 1 + 1, 0, none⟩) 4 rfl (code_at (code_lit (X := endX false) (heap_at _ _ _ (by simp)) 4 4 rfl)) (by decide) (by simp; omega) ?_; intro v3 w3 q1 q2 hg3; have hXX := late_code false; generalize setX ++ endX false = XX at q1 q2 hXX ⊢; have hcode := code_of_own q1 q2; rw [hXX] at hcode; have HCode := hidm hcode; have HIn : Hid (IntsC w3 (.slice (some ⟨w.heap.size + 1 + 1, 0, none⟩) 2 2) (lateI false x0 x1)) := hidm (intsC_of_row (row_grown ((own_ints1 _ [x1, x0] 2 (w.heap.size + 1 + 1) rfl (by omega) (by simp)).alloc _) hg3 (fun e => absurd (Option.some.inj e) (show ¬ (w.heap.size + 1 + 1 = w.heap.size) by omega)))); have B3 : Bel w w3 := (((((Bel.refl w).alloc _).alloc _).alloc _).alloc _).grown hg3 (fun k hk => (by cases hk; exact Nat.le_refl _)); obtain ⟨g3, c3, rfl⟩ := q2; clear q1 hg3 hXX hcode
    go_wp2_with (first
        | (go_at_call 14; refine (run_late false x0 x1 _ _ _ (Hid.out HCode) (Hid.out HIn) (Hid.out W0) (Hid.out W1)).mono ?_; rintro e w2 ⟨b, o, ca, am, nm, cm, rfl, c1, c2, hb, b2⟩)
        | (go_at_call 12; refine (awake_any _).mono ?_; rintro e w7 ⟨rfl, b7⟩))
    go_ret
    exact ⟨rfl, btrans ((btrans B3 b2).alloc _) b7⟩
  · go_enter Try.func10, Try.ntmps10
    go_wp2_with (at_builtin; refine Hid.out ?_)
    refine hidm ?_
    refine append_ints _ rfl (.tmp 25) (.tmp 28) rfl (w.heap.size + 1 + 1) _ [x1, x0] [x1] rfl ((own_ints1 _ [x1, x0] 2 (w.heap.size + 1 + 1) rfl (by omega) (by simp)).alloc _) ⟨_, _, rfl⟩ (some ⟨w.heap.size + 1 + 1 + 1, 0, none⟩) 1 rfl (fun _ => ⟨w.heap.size + 1 + 1 + 1, 0, rfl, by simp, fun j hj => by obtain rfl : j = 0 := (by simpa using hj); exact cell_of (heap_at _ _ _ (by simp)) 0⟩) (by simp) (by simp) ?_; intro v2 w5 q1 q2 hg2; have HG2 := hidm hg2; have hgl : ∀ g, v2.ownBlock = some g → w.heap.size + 1 + 1 ≤ g := (fun g hg => (q1.lt g hg).1); obtain ⟨g2, c2, rfl⟩ := q2; have hg6 := hgl g2 rfl; have own2 := hidm q1; have B5 : Bel w w5 := (((((Bel.refl w).alloc _).alloc _).alloc _).alloc _).grown hg2 (fun k hk => (by cases hk; show w.heap.size ≤ w.heap.size + 1 + 1; omega)); have hs5 := B5.size; have x5 := (hg2.block (w.heap.size + 1) (by simp <;> omega) (fun e => absurd (Option.some.inj e) (show ¬ (w.heap.size + 1 = w.heap.size + 1 + 1) by omega))).trans (heap_old (heap_old (heap_at _ _ (w.heap.size + 1) (by simp)))); obtain ⟨d0, d1, d2, d3, d4⟩ := insB_cells (o := 20) (a := 0) (b := 0) (c := 0) (i := 1) x5; clear q1 hg2 hgl x5
    go_wp2_with (at_builtin; refine Hid.out ?_)
    refine hidm ?_
    refine append_code _ rfl (.tmp 30) (.tmp 35) rfl w.heap.size _ setX (endX true) rfl ((row_grown ((((own_lit w setX 5 rfl (by omega)).alloc _).alloc _).alloc _) (Hid.out HG2) (fun e => absurd (Option.some.inj e) (show ¬ (w.heap.size = w.heap.size + 1 + 1) by omega))).alloc _) ⟨_, _, rfl⟩ (some ⟨w5.heap.size, 0, none⟩) 4 rfl (code_at (code_lit (X := endX true) (heap_new w5 _) 4 4 rfl)) (by decide) (by simp; omega) ?_; intro v3 w3 q1 q2 hg3; have hXX := late_code true; generalize setX ++ endX true = XX at q1 q2 hXX ⊢; have hcode := code_of_own q1 q2; rw [hXX] at hcode; have HCode := hidm hcode; have HIn : Hid (IntsC w3 (.slice (some ⟨g2, 0, none⟩) 3 c2) (lateI true x0 x1)) := hidm (intsC_of_row (row_grown ((Hid.out own2).alloc _) hg3 (fun e => absurd (Option.some.inj e) (show ¬ (g2 = w.heap.size) by omega)))); have B3 : Bel w w3 := (B5.alloc _).grown hg3 (fun k hk => (by cases hk; exact Nat.le_refl _)); obtain ⟨g3, c3, rfl⟩ := q2; clear q1 hg3 hXX hcode
    go_wp2_with (first
        | (go_at_call 14; refine (run_late true x0 x1 _ _ _ (Hid.out HCode) (Hid.out HIn) (Hid.out W0) (Hid.out W1)).mono ?_; rintro e w2 ⟨b, o, ca, am, nm, cm, rfl, c1, c2, hb, b2⟩)
        | (go_at_call 12; refine (awake_any _).mono ?_; rintro e w7 ⟨rfl, b7⟩))
    go_ret
    exact ⟨rfl, btrans ((btrans B3 b2).alloc _) b7⟩

set_option maxRecDepth 100000 in
theorem lifted (os : Os) (started : os.Started) (H : Type) (enc : TypeId × Value → H) :
    ReturnsInHanded {} Try.checked os 10 .any (Rows.pipeLateSpec.pre6 enc Try.prog Try.f10 Rows.pipeLateRow.domain false) (Rows.pipeLateSpec.post enc Try.prog Try.f10 false true false false) := by
  refine returnsInHanded_of_change (C := Try.checked) own started (by kernel_rfl) Try.func10
    (ChangeSpec.witness6 (enc := enc) (C := Try.checked) false ⟨#[], #[.int .i32 0, .int .i32 0, .bool false], []⟩ 8 (by kernel_rfl) (by kernel_rfl) (by kernel_rfl) (by kernel_rfl)) ?_
  intro W base args ds gs before hval0 hW hcnd _
  have hval : ∀ (j : Nat) t v, Try.f10.params[j]? = some t → args[j]? = some v → Value.okWide Try.prog W .any base t v := hval0
  have hW' := hW
  obtain ⟨p, q, hA0, hV, rfl, hfz, hnd⟩ := hW
  have hA : DataW.TrodAll enc Try.prog W 0 (fun _ => true) true Try.f10.params.toList args.toList ds p := hA0
  rw [Try.params10] at hA hval
  obtain ⟨v0, vs0, d0, ds0, p0, q0, hargs, rfl, rfl, h0, r0⟩ := trodAll_cons hA
  obtain ⟨v1, vs1, d1, ds1, p1, q1, rfl, rfl, rfl, h1, r1⟩ := trodAll_cons r0
  obtain ⟨v2, vs2, d2, ds2, p2, q2, rfl, rfl, rfl, h2, r2⟩ := trodAll_cons r1
  obtain ⟨rfl, rfl, rfl⟩ := trodAll_nil r2
  obtain rfl : args = #[v0, v1, v2] := by cases args; simp_all
  obtain ⟨rfl, rfl⟩ := trodVars_none hV
  obtain ⟨x0, rfl, rfl, rfl, wx0⟩ := open_int Try.underlying21 (hval 0 21 v0 rfl rfl) h0
  obtain ⟨x1, rfl, rfl, rfl, wx1⟩ := open_int Try.underlying21 (hval 1 21 v1 rfl rfl) h1
  obtain ⟨x2, rfl, rfl, rfl⟩ := open_bool Try.underlying4 (hval 2 4 v2 rfl rfl) h2
  clear hA0 hval0
  refine (walk W x0 wx0 x1 wx1 x2).mono fun e W' ⟨he, bel⟩ => ?_
  subst he
  exact ⟨_, rfl, _, _, _, [], _, [], hW', trodAll_mk1 (shut_bool Try.underlying4 _), (trodAll_cons_mk (shut_int Try.underlying21 wx0) (trodAll_cons_mk (shut_int Try.underlying21 wx1) (trodAll_cons_mk (shut_bool Try.underlying4 x2) trodAll_mk0))), rfl, bel.out.frame _, fun h => by cases h⟩

theorem over : Rows.pipeLateRow.holds Try.pinned (OpenSpec.ofChange Rows.pipeLateSpec) :=
  OpenClaim.holds_of_wide 10 Try.f10 rfl rfl rfl rfl rfl rfl rfl ⟨rfl, rfl, rfl, rfl, rfl⟩ rfl rfl rfl rfl rfl (by kernel_rfl) Try.func10 (by kernel_rfl)
    (of_decide_eq_true (by kernel_rfl)) (by unfold Func.isWrapper; first | (rw [if_pos (by decide +kernel)]; kernel_rfl) | (rw [if_neg (by decide +kernel)]; exact ⟨rfl, rfl⟩))
    (fun os started H enc _ => lifted os started H enc)

theorem proved : Rows.PipeLateSaid :=
  over
#print axioms proved
end Go.Proofs.Ythkhlkcdhalkfaa.pipeLate
