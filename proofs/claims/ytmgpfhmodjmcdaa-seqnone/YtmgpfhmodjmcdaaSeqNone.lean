/-
  The law 'SeqNone' of delayslotlaw07 returns true at every instruction, fuel and memory: without fuel nothing is done; of too much code, or memory, nothing is told.
  Conditions: none.
-/
import Derived.Test.YtmgpfhmodjmcdaaRows
import Derived.WalkKit
import Derived.ProofKit
import Derived.OpenShut
import Derived.ShutString
import Derived.ChangeOld
import Derived.Below
import Derived.Carry
import Derived.Test.YtmgpfhmodjmcdaaSd
import Derived.Test.YtmgpfhmodjmcdaaAwk7
namespace Go.Proofs.Ytmgpfhmodjmcdaa.seqNone
open Go.ChangeShapes Go.WideShapes Go.ChangeAt Go.RowKit
open Go.ChangeMaps (open_string shut_string)
set_option linter.unusedVariables false

theorem laidOut : laidOutB Try.prog = true := by kernel_rfl
theorem own : ownKnob Try.prog.godebug = none := by kernel_rfl
theorem cells34 : Try.prog.cellsOf 34 = 5 := by kernel_rfl
theorem used_zero (n : Nat) : usedL (List.replicate n 0) = [] := by
  have e : EndAt (List.replicate n 0) 0 := ⟨Nat.zero_le _, fun j _ hj => by rw [List.getElem?_replicate]; split <;> rfl, .inl rfl⟩
  rw [← used_of e]; rfl
theorem said_none {X : List Ins} {z : Int} {I : List Int} {f t : Int} {k : Nat} {O M : List Int} (hf : f ≤ 0) (h : Said X z I f t k O M) : t = 0 ∧ k = 0 ∧ O = [] ∧ M = [] := by
  unfold Said at h
  split at h
  · exact h
  · obtain ⟨hE, rfl, rfl, rfl⟩ := h
    obtain rfl : k = 0 := by have := hE.1; omega
    exact ⟨rfl, rfl, rfl, used_zero _⟩
theorem run_fuel0 (x : Ins) (v : Value) (f : Int) (W : World) (hv : Code W v [x]) (hf : f ≤ 0) :
    Calls Try.prog 16 #[v, .int .i64 5, .slice none 0 0, .int .i64 f] W fun e W' => ∃ ao ca am cm, e = .returned (.agg #[.int .i64 0, .int .i64 0, .slice ao 0 ca, .slice am 0 cm]) ∧ Bel W W' := by
  refine (run_said [x] v (.slice none 0 0) 5 f [] W hv (intsC_nil W) (by simp) (by omega)).mono ?_
  rintro e W' ⟨t, k, O, M, ao, ca, am, cm, hS, rfl, _, _, hB, _⟩
  obtain ⟨rfl, rfl, rfl, rfl⟩ := said_none hf hS
  exact ⟨ao, ca, am, cm, rfl, hB⟩
theorem instrInfo7 : (Try.prog.info? 34).map (fun i => (i.zero, i.size, i.bytes)) = some (some (.agg #[.int .i64 0, .int .i64 0, .int .i64 0, .int .i64 0, .int .i64 0]), 5, 40) := by kernel_rfl
theorem make_big : ∃ C, ∀ W : World, (Instr.makeSlice 22 (.int .i64 4097) (.int .i64 4097)).run Try.prog W = .ok (.slice (some ⟨W.heap.size, 0, none⟩) 4097 4097) (W.alloc (.cells C 34)) := by
  obtain ⟨i0, hi, hz0, hz1, hz2⟩ := info_parts instrInfo7
  refine ⟨madeCells (Value.agg #[.int .i64 0, .int .i64 0, .int .i64 0, .int .i64 0, .int .i64 0]).cells (4097 * 5), fun W => ?_⟩
  have h := run_make (P := Try.prog) W 22 34 i0 _ Try.underlying22 hi hz0 .i64 .i64 4097 4097 (by omega) (by omega) (by rw [hz2]; omega) (by omega)
  rw [hz1] at h
  exact h
theorem code_lit2 (w : World) (o1 : Obj) (x : Ins) (n c : Nat) (hn : n = 1) : Code ((w.alloc o1).alloc (insB x.o x.a x.b x.c x.i)) (.slice (some ⟨w.heap.size + 1, 0, none⟩) n c) [x] := by
  have e1 : (w.alloc o1).heap.size = w.heap.size + 1 := by simp
  have h := heap_new (w.alloc o1) (insB x.o x.a x.b x.c x.i)
  rw [e1] at h
  exact code_lit (X := [x]) h n c hn

set_option maxRecDepth 20000 in
set_option maxHeartbeats 2000000 in
theorem walk (w : World) (o0 a0 b0 c0 i0 : Int) (wo0 : (Lit.int .i64 o0).wf = true) (wa0 : (Lit.int .i64 a0).wf = true) (wb0 : (Lit.int .i64 b0).wf = true) (wc0 : (Lit.int .i64 c0).wf = true) (wi0 : (Lit.int .i64 i0).wf = true) (x1 : Int) (wx1 : (Lit.int .i64 x1).wf = true) (x2 : Int) (wx2 : (Lit.int .i32 x2).wf = true) :
    Calls Try.prog 11 #[.agg #[.int .i64 o0, .int .i64 a0, .int .i64 b0, .int .i64 c0, .int .i64 i0], .int .i64 x1, .int .i32 x2] w fun e w' => e = .returned (.bool true) ∧ Bel w w' := by
  obtain ⟨hm1, hm2⟩ := wf_i32 wx2
  obtain ⟨C, hmk⟩ := make_big
  have hx : x1 < 0 ∨ 0 ≤ x1 := by omega
  have hmm : x2 < -1 ∨ (-1 ≤ x2 ∧ x2 < 32001) ∨ 32001 ≤ x2 := by omega
  rcases hx with hx | hx
  all_goals
    rcases hmm with hmm | ⟨hmm, hmn⟩ | hmm
    all_goals
      go_enter Try.func11, Try.ntmps11
      go_wp2_with (first
        | (go_at_call 16; have q := B3; refine (run_badmem [] _ _ _ _ _ (by omega)).mono ?_; rintro e w4 ⟨rfl, b4⟩; have hA4 := (b4.out.block w1.heap.size (by simp; omega)).trans (heap_old (heap_old (Hid.out hA3))); have hB4 := (b4.out.block w2.heap.size (by simp; omega)).trans (heap_old (heap_old (Hid.out hB3))); have hC4 : w4.heap[w3.heap.size]? = some (resB 0 0 (.slice none 0 0) (.slice none 0 0)) := (b4.out.block w3.heap.size (by simp; omega)).trans (heap_old (heap_new w3 _)); obtain ⟨e0, e1, e2, e3⟩ := resB_cells hA4; obtain ⟨f0, f1, f2, f3⟩ := resB_cells hB4; obtain ⟨g0, g1, g2, g3⟩ := resB_cells hC4; have B4 : Bel w w4 := btrans ((B3.alloc _).alloc _) b4; have l4 := lt_of_heap hC4; have m5 : w1.heap.size < w4.heap.size := (by omega); have m6 : w2.heap.size < w4.heap.size := (by omega); clear hA4 hB4 hC4)
        | (go_at_call 16; have q := B2; refine (run_badmem [] _ _ _ _ _ (by omega)).mono ?_; rintro e w3 ⟨rfl, b3⟩; have hi3 := (b3.out.block w.heap.size (by simp; omega)).trans (heap_old (heap_old (Hid.out hi2))); obtain ⟨d0, d1, d2, d3, d4⟩ := insB_cells hi3; have hA3 := hidm ((b3.out.block w1.heap.size (by simp; omega)).trans (heap_old (heap_old (Hid.out hA2)))); have hB3 : Hid (w3.heap[w2.heap.size]? = some (resB 0 0 (.slice none 0 0) (.slice none 0 0))) := hidm ((b3.out.block w2.heap.size (by simp; omega)).trans (heap_old (heap_new w2 _))); have B3 : Bel w w3 := btrans ((B2.alloc _).alloc _) b3; have l3 := lt_of_heap (Hid.out hB3); have m3 : w.heap.size < w3.heap.size := (by omega); have m4 : w1.heap.size < w3.heap.size := (by omega); clear hi3)
        | (go_at_call 16; have q := B1; refine (run_badcode [] _ 4097 4097 _ 5 9 _ (by omega) (by omega)).mono ?_; rintro e w2 ⟨rfl, b2⟩; have hi2 := hidm ((b2.out.block w.heap.size (by simp; omega)).trans (heap_old (heap_old (Hid.out hi1)))); obtain ⟨d0, d1, d2, d3, d4⟩ := insB_cells (Hid.out hi2); have hA2 : Hid (w2.heap[w1.heap.size]? = some (resB 0 0 (.slice ao 0 ca) (.slice am 0 cm))) := hidm ((b2.out.block w1.heap.size (by simp; omega)).trans (heap_old (heap_new w1 _))); have B2 : Bel w w2 := btrans ((B1.alloc _).alloc _) b2; have l2 := lt_of_heap (Hid.out hA2); have m2 : w.heap.size < w2.heap.size := (by omega))
        | (go_at_call 16; refine (run_fuel0 ⟨o0, a0, b0, c0, i0⟩ _ _ _ (code_lit2 w _ ⟨o0, a0, b0, c0, i0⟩ 1 1 rfl) (by omega)).mono ?_; rintro e w1 ⟨ao, ca, am, cm, rfl, b1⟩; have hi1 : Hid (w1.heap[w.heap.size]? = some (insB o0 a0 b0 c0 i0)) := hidm ((b1.out.block w.heap.size (by simp; omega)).trans (heap_old (heap_new w _))); have B1 : Bel w w1 := btrans (((Bel.refl w).alloc _).alloc _) b1; have l1 := lt_of_heap (Hid.out hi1))
        | (go_at_call 14; refine (awake_any _).mono ?_; rintro e w5 ⟨rfl, b5⟩))
      all_goals
        go_ret
        exact ⟨rfl, btrans (B4.alloc _) b5⟩

set_option maxRecDepth 100000 in
theorem lifted (os : Os) (started : os.Started) (H : Type) (enc : TypeId × Value → H) :
    ReturnsInHanded {} Try.checked os 11 .any (Rows.seqNoneSpec.pre6 enc Try.prog Try.f11 Rows.seqNoneRow.domain false) (Rows.seqNoneSpec.post enc Try.prog Try.f11 false true false false) := by
  refine returnsInHanded_of_change (C := Try.checked) own started (by kernel_rfl) Try.func11
    (ChangeSpec.witness6 (enc := enc) (C := Try.checked) false ⟨#[], #[.agg #[.int .i64 0, .int .i64 0, .int .i64 0, .int .i64 0, .int .i64 0], .int .i64 0, .int .i32 0], []⟩ 8 (by kernel_rfl) (by kernel_rfl) (by kernel_rfl) (by kernel_rfl)) ?_
  intro W base args ds gs before hval0 hW hcnd _
  have hval : ∀ (j : Nat) t v, Try.f11.params[j]? = some t → args[j]? = some v → Value.okWide Try.prog W .any base t v := hval0
  have hW' := hW
  obtain ⟨p, q, hA0, hV, rfl, hfz, hnd⟩ := hW
  have hA : DataW.TrodAll enc Try.prog W 0 (fun _ => true) true Try.f11.params.toList args.toList ds p := hA0
  rw [Try.params11] at hA hval
  obtain ⟨v0, vs0, d0, ds0, p0, q0, hargs, rfl, rfl, h0, r0⟩ := trodAll_cons hA
  obtain ⟨v1, vs1, d1, ds1, p1, q1, rfl, rfl, rfl, h1, r1⟩ := trodAll_cons r0
  obtain ⟨v2, vs2, d2, ds2, p2, q2, rfl, rfl, rfl, h2, r2⟩ := trodAll_cons r1
  obtain ⟨rfl, rfl, rfl⟩ := trodAll_nil r2
  obtain rfl : args = #[v0, v1, v2] := by cases args; simp_all
  obtain ⟨rfl, rfl⟩ := trodVars_none hV
  obtain ⟨o0, a0, b0, c0, i0, rfl, rfl, rfl, wo0, wa0, wb0, wc0, wi0⟩ := open_agg5i Try.underlying34 (by kernel_rfl) cells34 Try.underlying3 rfl rfl rfl rfl rfl (hval 0 34 v0 rfl rfl) h0
  obtain ⟨x1, rfl, rfl, rfl, wx1⟩ := open_int Try.underlying3 (hval 1 3 v1 rfl rfl) h1
  obtain ⟨x2, rfl, rfl, rfl, wx2⟩ := open_int Try.underlying21 (hval 2 21 v2 rfl rfl) h2
  clear hA0 hval0
  refine (walk W o0 a0 b0 c0 i0 wo0 wa0 wb0 wc0 wi0 x1 wx1 x2 wx2).mono fun e W' ⟨he, bel⟩ => ?_
  subst he
  exact ⟨_, rfl, _, _, _, [], _, [], hW', trodAll_mk1 (shut_bool Try.underlying4 _), (trodAll_cons_mk (shut_agg5i Try.underlying34 (by kernel_rfl) cells34 Try.underlying3 rfl rfl rfl rfl rfl wo0 wa0 wb0 wc0 wi0) (trodAll_cons_mk (shut_int Try.underlying3 wx1) (trodAll_cons_mk (shut_int Try.underlying21 wx2) trodAll_mk0))), rfl, bel.out.frame _, fun h => by cases h⟩

theorem over : Rows.seqNoneRow.holds Try.pinned (OpenSpec.ofChange Rows.seqNoneSpec) :=
  OpenClaim.holds_of_wide 11 Try.f11 rfl rfl rfl rfl rfl rfl rfl ⟨rfl, rfl, rfl, rfl, rfl⟩ rfl rfl rfl rfl rfl (by kernel_rfl) Try.func11 (by kernel_rfl)
    (of_decide_eq_true (by kernel_rfl)) (by unfold Func.isWrapper; first | (rw [if_pos (by decide +kernel)]; kernel_rfl) | (rw [if_neg (by decide +kernel)]; exact ⟨rfl, rfl⟩))
    (fun os started H enc _ => lifted os started H enc)

theorem proved : Rows.SeqNoneSaid :=
  over
#print axioms proved
end Go.Proofs.Ytmgpfhmodjmcdaa.seqNone
