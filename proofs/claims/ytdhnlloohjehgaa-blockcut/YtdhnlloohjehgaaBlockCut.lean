/-
  The law 'BlockCut' of delayslotlaw09 returns true at all numbers: a branch to the next place cuts code just behind it, wherever it stands among Nops.
  Conditions: none.
-/
import Derived.Test.YtdhnlloohjehgaaRows
import Derived.WalkKit
import Derived.ProofKit
import Derived.OpenShut
import Derived.ShutString
import Derived.ChangeOld
import Derived.Below
import Derived.Carry
import Derived.Test.YtdhnlloohjehgaaAwk9
import Derived.Test.YtdhnlloohjehgaaMk9
import Derived.Test.YtdhnlloohjehgaaHn
namespace Go.Proofs.Ytdhnlloohjehgaa.blockCut
open Go.ChangeShapes Go.WideShapes Go.ChangeAt Go.RowKit
open Go.ChangeMaps (open_string shut_string)
set_option linter.unusedVariables false

theorem laidOut : laidOutB Try.prog = true := by kernel_rfl
theorem own : ownKnob Try.prog.godebug = none := by kernel_rfl
def insQ : Ins := ⟨15, 0, 0, 0, 0⟩
def cutX (n k : Nat) : List Ins := (List.replicate n Ins.zero).set k insQ
theorem cutX_len (n k : Nat) : (cutX n k).length = n := by simp [cutX]
theorem cutX_at {n k : Nat} (hk : k < n) (j : Nat) : (cutX n k).getD j Ins.zero = if j = k then insQ else Ins.zero := by
  unfold cutX
  by_cases e : j = k
  · subst e
    simp [List.getD, hk]
  · rw [if_neg e]
    simp only [List.getD, List.getElem?_set, show ¬ k = j from fun q => e q.symm, if_false]
    exact nops_get n j
theorem zero_right : Ins.zero.right = true := by decide +kernel
theorem zero_names : Ins.zero.names = false := by decide +kernel
theorem zero_goes : Ins.zero.goes = false := by decide +kernel
theorem q_right : insQ.right = true := by decide +kernel
theorem q_names : insQ.names = true := by decide +kernel
theorem q_goes : insQ.goes = true := by decide +kernel
theorem q_tgt (k : Int) : insQ.tgt k = k + 1 := by
  have h : namesB 15 0 0 0 0 = true := q_names
  show tgtI 15 0 0 0 0 k = k + 1
  unfold tgtI
  rw [h, if_pos rfl, if_pos (by omega)]
  omega
theorem cutX_names {n k : Nat} (hk : k < n) (j : Nat) : ((cutX n k).getD j Ins.zero).names = decide (j = k) := by
  rw [cutX_at hk]
  by_cases e : j = k
  · rw [if_pos e, q_names, decide_eq_true e]
  · rw [if_neg e, zero_names, decide_eq_false e]
theorem cutX_goes {n k : Nat} (hk : k < n) (j : Nat) : ((cutX n k).getD j Ins.zero).goes = decide (j = k) := by
  rw [cutX_at hk]
  by_cases e : j = k
  · rw [if_pos e, q_goes, decide_eq_true e]
  · rw [if_neg e, zero_goes, decide_eq_false e]
theorem cutX_fit {n k : Nat} (hk : k < n) (hn : n ≤ 4096) : fitB (cutX n k) = true := by
  rw [fit_iff, cutX_len]
  refine ⟨hn, fun j hj => ?_⟩
  unfold okB
  rw [cutX_at hk]
  by_cases e : j = k
  · rw [if_pos e, q_right, q_names, q_tgt]
    simp only [Bool.not_true, Bool.false_or, Bool.true_and, decide_eq_true_eq]
    omega
  · rw [if_neg e, zero_right, zero_names]
    rfl
theorem cutX_cuts {n k : Nat} (hk : k + 1 < n) (hn : n ≤ 4096) : cutL (cutX n k) = [0, (k : Int) + 1, (n : Int)] := by
  refine sorted_ext _ _ (cutL_lt _) ?_ fun x => ?_
  · simp only [List.pairwise_cons, List.mem_cons, List.not_mem_nil, or_false, forall_eq_or_imp, forall_eq, List.Pairwise.nil, and_true, false_implies, implies_true]
    omega
  · rw [mem_cutL (cutX_fit (by omega) hn)]
    unfold CutM
    rw [cutX_len]
    simp only [List.mem_cons, List.not_mem_nil, or_false]
    constructor
    · rintro (h | h | ⟨j, hj, h1, h2⟩ | ⟨j, hj, h1, h2⟩)
      · exact .inl h
      · exact .inr (.inr h)
      · rw [cutX_goes (by omega), decide_eq_true_eq] at h1
        subst h1
        exact .inr (.inl h2)
      · rw [cutX_names (by omega), decide_eq_true_eq] at h1
        subst h1
        rw [cutX_at (by omega), if_pos rfl, q_tgt] at h2
        exact .inr (.inl h2)
    · rintro (h | h | h)
      · exact .inl h
      · exact .inr (.inr (.inl ⟨k, by omega, by rw [cutX_goes (by omega)]; exact decide_eq_true rfl, h⟩))
      · exact .inr (.inl h)
theorem cutX_two {n k : Nat} (hk : k + 1 < n) (hn : n ≤ 4096) : (hdL (cutX n k)).length = 2 := by
  have := cutL_len (cutX n k)
  rw [cutX_cuts hk hn] at this
  simpa using this.symm
/-- The world behind the store. -/
def putQ (W : World) (g k : Nat) : World := ((((W.setCell ⟨g, k * 5, none⟩ (.int .i64 15)).setCell ⟨g, k * 5 + 1, none⟩ (.int .i64 0)).setCell ⟨g, k * 5 + 2, none⟩ (.int .i64 0)).setCell ⟨g, k * 5 + 3, none⟩ (.int .i64 0)).setCell ⟨g, k * 5 + 4, none⟩ (.int .i64 0)
theorem putQ_bel (w : World) (o : Obj) (k : Nat) : Bel w (putQ (w.alloc o) w.heap.size k) :=
  (((((((Bel.refl w).alloc o).setCell (Nat.le_refl _) _).setCell (Nat.le_refl _) _).setCell (Nat.le_refl _) _).setCell (Nat.le_refl _) _).setCell (Nat.le_refl _) _)
theorem putQ_at (w : World) (n k i : Nat) (hk : k < n) (hi : i < n * 5) : (putQ (w.alloc (nopsB n)) w.heap.size k).cell? ⟨w.heap.size, i, none⟩ = some (.int .i64 (if i = k * 5 then 15 else 0)) := by
  have h0 : (w.alloc (nopsB n)).heap[w.heap.size]? = some (nopsB n) := heap_new w _
  have h1 := heap_set_same (o := k * 5) (u := .int .i64 15) h0
  have h2 := heap_set_same (o := k * 5 + 1) (u := .int .i64 0) h1
  have h3 := heap_set_same (o := k * 5 + 2) (u := .int .i64 0) h2
  have h4 := heap_set_same (o := k * 5 + 3) (u := .int .i64 0) h3
  have h5 := heap_set_same (o := k * 5 + 4) (u := .int .i64 0) h4
  refine (cell_of h5 i).trans ?_
  have hm := made_at n i hi
  have hs : (madeCells insZ.cells (n * 5)).size = n * 5 := size_madeCells _ _
  simp only [Array.getElem?_setIfInBounds, Array.size_setIfInBounds, hs, hm]
  by_cases e0 : i = k * 5
  · subst e0
    rw [if_neg (by omega), if_neg (by omega), if_neg (by omega), if_neg (by omega), if_pos rfl, if_pos (by omega), if_pos rfl]
  · rw [if_neg e0]
    repeat' split
    all_goals first | rfl | (exfalso; omega)
theorem putQ_code (w : World) (n k c : Nat) (hk : k < n) : Code (putQ (w.alloc (nopsB n)) w.heap.size k) (.slice (some ⟨w.heap.size, 0, none⟩) n c) (cutX n k) := by
  refine ⟨some ⟨w.heap.size, 0, none⟩, c, by rw [cutX_len], fun hn => ⟨w.heap.size, 0, rfl, ?_, fun j hj => ?_⟩⟩
  · simp [putQ]
  · rw [cutX_len] at hj
    rw [cutX_at hk]
    rw [putQ_at w n k _ hk (by omega), putQ_at w n k _ hk (by omega), putQ_at w n k _ hk (by omega), putQ_at w n k _ hk (by omega), putQ_at w n k _ hk (by omega)]
    by_cases e : j = k
    · subst e
      rw [if_pos rfl, if_pos (by omega), if_neg (by omega), if_neg (by omega), if_neg (by omega), if_neg (by omega)]
      exact ⟨rfl, rfl, rfl, rfl, rfl⟩
    · rw [if_neg e, if_neg (by omega), if_neg (by omega), if_neg (by omega), if_neg (by omega), if_neg (by omega)]
      exact ⟨rfl, rfl, rfl, rfl, rfl⟩

set_option maxRecDepth 20000 in
set_option maxHeartbeats 2000000 in
theorem walk (w : World) (x0 : Int) (wx0 : (Lit.int .u8 x0).wf = true) (x1 : Int) (wx1 : (Lit.int .u8 x1).wf = true) :
    Calls Try.prog 8 #[.int .u8 x0, .int .u8 x1] w fun e w' => e = .returned (.bool true) ∧ Bel w w' := by
  have hv0 := wf_u8 wx0
  have hv1 := wf_u8 wx1
  obtain ⟨m, hm⟩ : ∃ m : Nat, x0 % 100 = m := ⟨(x0 % 100).toNat, by omega⟩
  have hm99 : m ≤ 99 := by omega
  obtain ⟨k, hk⟩ : ∃ k : Nat, x1 % (2 + (m : Int) - 1) = k := ⟨(x1 % (2 + (m : Int) - 1)).toNat, (Int.toNat_of_nonneg (Int.emod_nonneg x1 (show (2 : Int) + m - 1 ≠ 0 by omega))).symm⟩
  have hkm : k < m + 1 := by
    have := Int.emod_lt_of_pos x1 (show (0 : Int) < 2 + (m : Int) - 1 by omega)
    omega
  have hmk := make_nops (m + 2) (by omega) (2 + (m : Int)) (by omega)
  have h0 : (w.alloc (nopsB (m + 2))).heap[w.heap.size]? = some (nopsB (m + 2)) := heap_new w _
  have cc : ∀ i, i < (m + 2) * 5 → (w.alloc (nopsB (m + 2))).cell? ⟨w.heap.size, i, none⟩ = some (.int .i64 0) := fun i hi => (cell_of h0 i).trans (made_at _ i hi)
  have c0 := cc (k * 5) (by omega)
  have c1 := cc (k * 5 + 1) (by omega)
  have c2 := cc (k * 5 + 2) (by omega)
  have c3 := cc (k * 5 + 3) (by omega)
  have c4 := cc (k * 5 + 4) (by omega)
  have ff : ∀ i, (w.alloc (nopsB (m + 2))).frozen? ⟨w.heap.size, i, none⟩ = false := fun i => frozen_of h0 i
  have HC := hidm (putQ_code w (m + 2) k (m + 2) (by omega))
  have HB := hidm (putQ_bel w (nopsB (m + 2)) k)
  have HF := hidm (cutX_fit (n := m + 2) (k := k) (by omega) (by omega))
  have HL := hidm (cutX_len (m + 2) k)
  have H2 := hidm (cutX_two (n := m + 2) (k := k) (by omega) (by omega))
  have H3 := hidm (cutX_cuts (n := m + 2) (k := k) (by omega) (by omega))
  have HX := hidm ((cutX_at (n := m + 2) (k := k) (by omega) k).trans (if_pos rfl))
  have HT : Hid (tgtI 15 0 0 0 0 k = (k : Int) + 1) := q_tgt k
  have HN : Hid (namesB 15 0 0 0 0 = true) := q_names
  generalize cutX (m + 2) k = X at HC HF HL H2 H3 HX
  have q1 : (k : Int) < (m : Int) + 2 := by omega
  have q2 : ¬ (2 : Int) + m - 1 = 0 := by omega
  clear cc h0
  go_enter Try.func8, Try.ntmps8
  go_wp2_with (first
    | (go_at_call 18; refine Hid.out ?_))
  refine hidm ?_
  change Calls Try.prog 18 _ (putQ (w.alloc (nopsB (m + 2))) w.heap.size k) _
  have hd : (putQ (w.alloc (nopsB (m + 2))) w.heap.size k).heap.size = w.heap.size + 1 := by simp [putQ]
  clear c0 c1 c2 c3 c4 ff hmk
  generalize putQ (w.alloc (nopsB (m + 2))) w.heap.size k = W at HC HB hd ⊢
  obtain ⟨ao', cap', e, h⟩ := HC.out
  injection e with e1 e2 e3
  subst e1
  obtain ⟨bb, oo, e4, hlt, hca⟩ := h (by rw [HL.out]; omega)
  injection e4 with e4
  injection e4 with e5 e6 _
  subst e5 e6
  have hq := hca k (by rw [HL.out]; omega)
  rw [HX.out, Nat.zero_add] at hq
  obtain ⟨d0, d1, d2, d3, d4⟩ : W.cell? ⟨w.heap.size, k * 5, none⟩ = some (.int .i64 15) ∧ W.cell? ⟨w.heap.size, k * 5 + 1, none⟩ = some (.int .i64 0) ∧ W.cell? ⟨w.heap.size, k * 5 + 2, none⟩ = some (.int .i64 0) ∧ W.cell? ⟨w.heap.size, k * 5 + 3, none⟩ = some (.int .i64 0) ∧ W.cell? ⟨w.heap.size, k * 5 + 4, none⟩ = some (.int .i64 0) := hq
  clear hca h e2 e3
  refine (blocks_yes X _ W (by rw [HL.out]; omega) HC.out HF.out).mono ?_
  rw [H2.out, H3.out]
  rintro e w2 ⟨a2, c2, rfl, r2, b2⟩
  obtain ⟨g2, o2, rfl, l2, r2⟩ := r2 (by omega)
  have y0 := r2 0 (by omega)
  have y1 := r2 1 (by omega)
  have y00 : w2.cell? ⟨g2, o2, none⟩ = some (.int .i64 0) := y0.1
  have y01 : w2.cell? ⟨g2, o2 + 1, none⟩ = some (.int .i64 ((k : Int) + 1)) := y0.2
  have y10 : w2.cell? ⟨g2, o2 + 2, none⟩ = some (.int .i64 ((k : Int) + 1)) := y1.1
  have y11 : w2.cell? ⟨g2, o2 + 2 + 1, none⟩ = some (.int .i64 (2 + (m : Int))) := y1.2.trans (by show some (Value.int .i64 ((m + 2 : Nat) : Int)) = _; congr 2; omega)
  clear y0 y1 r2
  rw [← (bcell b2).1 _ _ hlt] at d0 d1 d2 d3 d4
  have q3 : (k : Int) + 1 ≠ 0 := by omega
  go_wp2_with (first
    | (go_at_call 11; refine (target_any 15 0 0 0 0 k (by omega) _).mono ?_; rw [HT.out, HN.out]; rintro e w3 ⟨rfl, b3⟩; obtain ⟨hc3, hf3⟩ := bcell b3)
    | (go_at_call 10; refine (awake_any _).mono ?_; rintro e w8 ⟨rfl, b8⟩))
  go_ret
  exact ⟨rfl, btrans HB.out (btrans b2 (btrans b3 b8))⟩

set_option maxRecDepth 100000 in
theorem lifted (os : Os) (started : os.Started) (H : Type) (enc : TypeId × Value → H) :
    ReturnsInHanded {} Try.checked os 8 .any (Rows.blockCutSpec.pre6 enc Try.prog Try.f8 Rows.blockCutRow.domain false) (Rows.blockCutSpec.post enc Try.prog Try.f8 false true false false) := by
  refine returnsInHanded_of_change (C := Try.checked) own started (by kernel_rfl) Try.func8
    (ChangeSpec.witness6 (enc := enc) (C := Try.checked) false ⟨#[], #[.int .u8 0, .int .u8 0], []⟩ 8 (by kernel_rfl) (by kernel_rfl) (by kernel_rfl) (by kernel_rfl)) ?_
  intro W base args ds gs before hval0 hW hcnd _
  have hval : ∀ (j : Nat) t v, Try.f8.params[j]? = some t → args[j]? = some v → Value.okWide Try.prog W .any base t v := hval0
  have hW' := hW
  obtain ⟨p, q, hA0, hV, rfl, hfz, hnd⟩ := hW
  have hA : DataW.TrodAll enc Try.prog W 0 (fun _ => true) true Try.f8.params.toList args.toList ds p := hA0
  rw [Try.params8] at hA hval
  obtain ⟨v0, vs0, d0, ds0, p0, q0, hargs, rfl, rfl, h0, r0⟩ := trodAll_cons hA
  obtain ⟨v1, vs1, d1, ds1, p1, q1, rfl, rfl, rfl, h1, r1⟩ := trodAll_cons r0
  obtain ⟨rfl, rfl, rfl⟩ := trodAll_nil r1
  obtain rfl : args = #[v0, v1] := by cases args; simp_all
  obtain ⟨rfl, rfl⟩ := trodVars_none hV
  obtain ⟨x0, rfl, rfl, rfl, wx0⟩ := open_int Try.underlying5 (hval 0 5 v0 rfl rfl) h0
  obtain ⟨x1, rfl, rfl, rfl, wx1⟩ := open_int Try.underlying5 (hval 1 5 v1 rfl rfl) h1
  clear hA0 hval0
  refine (walk W x0 wx0 x1 wx1).mono fun e W' ⟨he, bel⟩ => ?_
  subst he
  exact ⟨_, rfl, _, _, _, [], _, [], hW', trodAll_mk1 (shut_bool Try.underlying4 _), (trodAll_cons_mk (shut_int Try.underlying5 wx0) (trodAll_cons_mk (shut_int Try.underlying5 wx1) trodAll_mk0)), rfl, bel.out.frame _, fun h => by cases h⟩

theorem over : Rows.blockCutRow.holds Try.pinned (OpenSpec.ofChange Rows.blockCutSpec) :=
  OpenClaim.holds_of_wide 8 Try.f8 rfl rfl rfl rfl rfl rfl rfl ⟨rfl, rfl, rfl, rfl, rfl⟩ rfl rfl rfl rfl rfl (by kernel_rfl) Try.func8 (by kernel_rfl)
    (of_decide_eq_true (by kernel_rfl)) (by unfold Func.isWrapper; first | (rw [if_pos (by decide +kernel)]; kernel_rfl) | (rw [if_neg (by decide +kernel)]; exact ⟨rfl, rfl⟩))
    (fun os started H enc _ => lifted os started H enc)

theorem proved : Rows.BlockCutSaid :=
  over
#print axioms proved
end Go.Proofs.Ytdhnlloohjehgaa.blockCut
