/-
  The contract of Heights.
-/
import Derived.Test.YtpmofaajkhllpaaBk
import Derived.Test.YtpmofaajkhllpaaDn
import Derived.Test.YtpmofaajkhllpaaIb
namespace Go.Proofs.Ytpmofaajkhllpaa
set_option maxRecDepth 20000
set_option linter.unusedVariables false
open Go.ChangeShapes Go.WideShapes Go.ChangeAt Go.RowKit Go.Shelf
attribute [local go_sem] Oper.semAt_some

/-- What the rounds of Heights keep. -/
structure HInv (w wL : World) (g b bx : Nat) (X : List Ins) (pre : List (Fin X.length)) (V : World) (L : List (Ins × Int)) (f : Nat → Int) : Prop where
  good : Good (2 * (pre.length : Int)) L
  row : V.heap[g]? = some (intB f X.length)
  box : V.heap[bx]? = some (.cells #[.slice (some ⟨g, 0, none⟩) X.length X.length] 25)
  ask : V.heap[b]? = some (askL L)
  bel : Below w.heap.size w V
  size : wL.heap.size ≤ V.heap.size
  real : ∀ k, pre = desc X.length k → L = addL X f k ∧ ∀ j, k ≤ j → j < X.length → f j = (hgt X).getD j 0

theorem HInv.alloc {w wL : World} {g b bx : Nat} {X : List Ins} {pre : List (Fin X.length)} {V : World} {L : List (Ins × Int)} {f : Nat → Int} (H : HInv w wL g b bx X pre V L f) (hw : w.heap.size ≤ wL.heap.size) (o : Obj) : HInv w wL g b bx X pre (V.alloc o) L f :=
  ⟨H.good, heap_old H.row, heap_old H.box, heap_old H.ask, H.bel.alloc (Nat.le_trans hw H.size) o, by rw [World.size_alloc]; exact Nat.le_succ_of_le H.size, H.real⟩
theorem alloc_from (B : Nat) (W : World) (o : Obj) : KeepsFrom B W (W.alloc o) := kept_from B (Kept.alloc (fun _ _ => False) W o) (fun _ _ _ s => s.elim)
theorem alloc_keepX {n : Nat} {S : Nat → Prop} {W : World} (hn : n ≤ W.heap.size) (o : Obj) : KeepX n S W (W.alloc o) := fun k hk _ => Below.heap_alloc W o k (by omega)

set_option maxRecDepth 100000 in
set_option maxHeartbeats 1000000 in
theorem heights_any (X : List Ins) (v : Value) (w : World) (hl : X.length ≤ 1000) (hv : Code w v X) :
    Calls Try.prog 34 #[v] w fun e w' => ∃ g c, e = .returned (.slice (some ⟨g, 0, none⟩) X.length c) ∧ w.heap.size ≤ g ∧ w'.heap[g]? = some (intB (fun j => (hgt X).getD j 0) X.length) ∧ Bel w w' := by
  obtain ⟨ao, cap, rfl, hcode⟩ := hv
  have hmk : ∀ W : World, (Instr.makeSlice 25 (.int .i64 X.length) (.int .i64 X.length)).run Try.prog W = .ok (.slice (some ⟨W.heap.size, 0, none⟩) X.length X.length) (W.alloc (intB (fun _ => 0) X.length)) := fun W => make_ints X.length (by omega) _ rfl W
  have HC := hidm hcode
  clear hcode
  refine (callsIn_wide (n := 6)).1 ?_
  refine callsIn_of_wp_marks Try.func34 rfl trivial ?_ rfl
  simp only [Try.ntmps34, List.size_toArray, List.length_cons, List.length_nil, Nat.reduceAdd, Nat.reduceSub, Array.replicate_succ, Array.replicate_zero, List.push_toArray, List.append_toArray, List.nil_append, List.cons_append]
  gi_wp2_with (first
    | (refine wpListIn_alloc_ask (by rfl) (by rfl) ?_)
    | (refine ⟨trivial, ?_⟩; gi_at_call 46; refine (callsIn_wide.2 (back_any _ _ _ _ rfl _)).mono ?_; rintro e w1 ⟨rfl, rfl⟩))
  have hsz : ((((w.alloc (intB (fun _ => 0) X.length)).alloc (Obj.cells #[.slice (some ⟨w.heap.size, 0, none⟩) X.length X.length] 25)).alloc (askL [])).alloc (Obj.cells #[.slice ao X.length cap] 22)).heap.size = w.heap.size + 1 + 1 + 1 + 1 := by simp
  have r1 : ((((w.alloc (intB (fun _ => 0) X.length)).alloc (Obj.cells #[.slice (some ⟨w.heap.size, 0, none⟩) X.length X.length] 25)).alloc (askL [])).alloc (Obj.cells #[.slice ao X.length cap] 22)).heap[w.heap.size]? = some (intB (fun _ => 0) X.length) := heap_old (heap_old (heap_old (heap_new _ _)))
  have r2 : ((((w.alloc (intB (fun _ => 0) X.length)).alloc (Obj.cells #[.slice (some ⟨w.heap.size, 0, none⟩) X.length X.length] 25)).alloc (askL [])).alloc (Obj.cells #[.slice ao X.length cap] 22)).heap[w.heap.size + 1]? = some (Obj.cells #[.slice (some ⟨w.heap.size, 0, none⟩) X.length X.length] 25) := heap_old (heap_old (heap_newN (by simp)))
  have r3 : ((((w.alloc (intB (fun _ => 0) X.length)).alloc (Obj.cells #[.slice (some ⟨w.heap.size, 0, none⟩) X.length X.length] 25)).alloc (askL [])).alloc (Obj.cells #[.slice ao X.length cap] 22)).heap[w.heap.size + 1 + 1]? = some (askL []) := heap_old (heap_newN (by simp))
  have r4 : ((((w.alloc (intB (fun _ => 0) X.length)).alloc (Obj.cells #[.slice (some ⟨w.heap.size, 0, none⟩) X.length X.length] 25)).alloc (askL [])).alloc (Obj.cells #[.slice ao X.length cap] 22)).heap[w.heap.size + 1 + 1 + 1]? = some (Obj.cells #[.slice ao X.length cap] 22) := heap_newN (by simp)
  have B0 : Bel w ((((w.alloc (intB (fun _ => 0) X.length)).alloc (Obj.cells #[.slice (some ⟨w.heap.size, 0, none⟩) X.length X.length] 25)).alloc (askL [])).alloc (Obj.cells #[.slice ao X.length cap] 22)) := ((((Bel.refl w).alloc _).alloc _).alloc _).alloc _
  generalize ((((w.alloc (intB (fun _ => 0) X.length)).alloc (Obj.cells #[.slice (some ⟨w.heap.size, 0, none⟩) X.length X.length] 25)).alloc (askL [])).alloc (Obj.cells #[.slice ao X.length cap] 22)) = wL at hsz r1 r2 r3 r4 B0 ⊢
  have hcL : HeldC wL.heap.size (fun k => k = w.heap.size ∨ k = w.heap.size + 1 + 1) wL ao X := fun hp => by
    obtain ⟨g, o, e, hg, hc⟩ := HC.out hp
    exact ⟨g, o, e, by omega, by omega, hc.stay hg B0⟩
  refine wpIn_rangeFunc_ownH rfl (by omega) (gf := 58) (lb := #[.pointer (some ⟨w.heap.size + 1 + 1 + 1, 0, none⟩)]) rfl trivial (enters_of Try.func58 (by kernel_rfl) rfl)
    (back_stops Fence.wide 5 trivial rfl (by omega) (w.heap.size + 1 + 1 + 1) wL.heap.size (fun k => k = w.heap.size ∨ k = w.heap.size + 1 + 1) ao cap X (by omega) wL r4 (by omega) (by omega) (Nat.le_refl _) hcL) keepX_t (keepX_b (Nat.le_refl _)) (Below.refl _ _) (fun _ => rfl)
    (fun pre V => ∃ L f, HInv w wL w.heap.size (w.heap.size + 1 + 1) (w.heap.size + 1) X pre V L f)
    (fun _ _ _ => False) ?hI (fun _ _ _ _ _ hs _ _ => hs) ?h0
    (fun x a' V => ∃ k, wL.heap.size ≤ k ∧ V.heap[k]? = some (.cells #[.int .i64 (X.getD x.val Ins.zero).o, .int .i64 (X.getD x.val Ins.zero).a, .int .i64 (X.getD x.val Ins.zero).b, .int .i64 (X.getD x.val Ins.zero).c, .int .i64 (X.getD x.val Ins.zero).i] 30) ∧ a' = { tmps := #[.slice ao X.length cap, undef, .slice none 0 0, .pointer (some ⟨w.heap.size + 1, 0, none⟩), .pointer (some ⟨w.heap.size + 1 + 1, 0, none⟩), .int .i64 (x.val : Nat), .pointer (some ⟨k, 0, none⟩), .slice ao X.length cap, .int .i64 X.length, .slice (some ⟨w.heap.size, 0, none⟩) X.length X.length, .slice ao X.length cap, .func (.func 58) #[] #[.pointer (some ⟨w.heap.size + 1 + 1 + 1, 0, none⟩)], .int .i64 (x.val : Nat), .agg #[.int .i64 (X.getD x.val Ins.zero).o, .int .i64 (X.getD x.val Ins.zero).a, .int .i64 (X.getD x.val Ins.zero).b, .int .i64 (X.getD x.val Ins.zero).c, .int .i64 (X.getD x.val Ins.zero).i], undef, undef, undef, undef, undef, undef, undef, undef, undef, undef, undef, undef], defers := [] })
    ?hAx ?assign ?body ?done ?stop
  case hI =>
    rintro pre A A' row ⟨L, f, H⟩ hg hr
    have hsA := H.size
    exact ⟨L, f, H.good, own_cells hg hr H.row, own_cells hg hr H.box, own_cells hg hr H.ask, (H.bel.grown hg (by omega) (fun r e => by have := (hr r e).1; omega)), Nat.le_trans H.size hg.size, H.real⟩
  case h0 =>
    exact ⟨[], fun _ => 0, ⟨fun p hp => absurd hp (by simp), r1, r2, r3, B0, Nat.le_refl _, fun k hk => by
      have hk' := congrArg List.length hk
      rw [desc_len] at hk'
      simp at hk'
      exact ⟨(addL_end X _ k (by omega)).symm, fun j h1 h2 => by omega⟩⟩⟩
  case hAx =>
    rintro x a' _ A A' row ⟨k, hk, hb, e⟩ hg hr
    exact ⟨k, hk, own_cells hg hr hb, e⟩
  case assign =>
    rintro l pre x W K ⟨L, f, H⟩ hK
    have hsz2 := H.size
    have H2 := H.alloc (by omega) (Obj.cells #[.int .i64 (X.getD x.val Ins.zero).o, .int .i64 (X.getD x.val Ins.zero).a, .int .i64 (X.getD x.val Ins.zero).b, .int .i64 (X.getD x.val Ins.zero).c, .int .i64 (X.getD x.val Ins.zero).i] 30)
    unfold encI Ins.val
    generalize X.getD x.val Ins.zero = xi at hK H2 ⊢
    gi_wp2
    exact hK _ _ (alloc_from _ _ _) (alloc_keepX hsz2 _) ⟨L, f, H2⟩ ⟨W.heap.size, hsz2, heap_new _ _, rfl⟩
  case body =>
    rintro l pre x a' W hll ⟨r, hr⟩ ⟨L, f, H⟩ ⟨k, hk, hbx, rfl⟩ hlt
    have hx := x.isLt
    have hgood := H.good
    have hm : Good 1000000 L := hgood.mono (by omega)
    generalize hxi : X.getD x.val Ins.zero = xi at hbx
    have tof : ∀ (ww : World), ww.heap[w.heap.size + 1 + 1]? = some (askL L) → CallsIn (Fence.wide.inRound l) 3 Try.prog 47 #[.pointer (some ⟨w.heap.size + 1 + 1, 0, none⟩), xi.val] ww fun e w' => e = .returned (.int .i64 (ofM xi L)) ∧ Bel ww w' := fun ww h => CallsIn.inRound l (callsIn_wide.2 (of_any xi _ L ww hm h))
    have hob := ofM_bd (m := 2 * (pre.length : Int)) (by omega) xi hgood
    have tadd : ∀ (ww : World), ww.heap[w.heap.size + 1 + 1]? = some (askL L) → CallsIn (Fence.wide.inRound l) 3 Try.prog 48 #[.pointer (some ⟨w.heap.size + 1 + 1, 0, none⟩), xi.val, .int .i64 (ofM xi L)] ww fun e w' => e = .returned (.tuple #[]) ∧ w'.heap[w.heap.size + 1 + 1]? = some (askL ((xi, ofM xi L) :: L)) ∧ Kept (fun k _ => k = w.heap.size + 1 + 1) ww w' := fun ww h => CallsIn.inRound l (callsIn_wide.2 (add_any xi _ _ L ww (by omega) (by omega) h))
    have hrow := H.row
    have hask := H.ask
    have hbox := H.box
    have HH := hidm H
    have HX := hidm hxi
    clear hxi
    have cb := cell_of hbox 0
    have cg := int_cell hrow x.val hx
    have fg := int_fz hrow x.val
    obtain ⟨p0, p1, p2, p3, p4⟩ := box_cells hbx
    generalize hv : ofM xi L = v at tof tadd hob
    have HV := hidm hv
    clear hv H hgood hm
    generalize hx0 : x.val = n at *
    unfold Ins.val at tof tadd
    have hn1 : (n : Int) < X.length := by omega
    have hmo : Try.prog.follows .mixedOrders = true := by kernel_rfl
    gi_wp2
    rename Act → World → Prop => KK
    rename ∀ _ _, _ => hKK
    have key : ∀ w2 : World, w2.heap[w.heap.size]? = some (intB (updN f n v) X.length) → w2.heap[w.heap.size + 1]? = some (.cells #[.slice (some ⟨w.heap.size, 0, none⟩) X.length X.length] 25) → w2.heap[w.heap.size + 1 + 1]? = some (askL L) → w2.heap[k]? = some (.cells #[.int .i64 xi.o, .int .i64 xi.a, .int .i64 xi.b, .int .i64 xi.c, .int .i64 xi.i] 30) → Kept (fun i _ => i = w.heap.size) W w2 →
        KK { tmps := #[.slice ao X.length cap, undef, .slice none 0 0, .pointer (some ⟨w.heap.size + 1, 0, none⟩), .pointer (some ⟨w.heap.size + 1 + 1, 0, none⟩), .int .i64 (n : Nat), .pointer (some ⟨k, 0, none⟩), .slice ao X.length cap, .int .i64 X.length, .slice (some ⟨w.heap.size, 0, none⟩) X.length X.length, .slice ao X.length cap, .func (.func 58) #[] #[.pointer (some ⟨w.heap.size + 1 + 1 + 1, 0, none⟩)], .int .i64 (n : Nat), .agg #[.int .i64 xi.o, .int .i64 xi.a, .int .i64 xi.b, .int .i64 xi.c, .int .i64 xi.i], .slice (some ⟨w.heap.size, 0, none⟩) X.length X.length, .int .i64 (n : Nat), .agg #[.int .i64 xi.o, .int .i64 xi.a, .int .i64 xi.b, .int .i64 xi.c, .int .i64 xi.i], .int .i64 v, .pointer (some ⟨w.heap.size, n, none⟩), undef, undef, undef, undef, undef, undef, undef], defers := [] } w2 := by
      intro w2 hrow2 hbox2 hask2 hbx2 K2
      refine hKK _ _ ?_
      clear cb cg fg p0 p1 p2 p3 p4 tof
      have fin : ∀ w3 : World, w3.heap[w.heap.size + 1 + 1]? = some (askL ((xi, v) :: L)) → Kept (fun k _ => k = w.heap.size + 1 + 1) w2.drew w3 → KeepsFrom wL.heap.size W w3 ∧ KeepX wL.heap.size (fun k => k = w.heap.size ∨ k = w.heap.size + 1 + 1) W w3 ∧ ∃ L f, HInv w wL w.heap.size (w.heap.size + 1 + 1) (w.heap.size + 1) X (pre ++ [x]) w3 L f := by
        intro w3 hask3 k3
        have K3 : Kept (fun i _ => i = w.heap.size ∨ i = w.heap.size + 1 + 1) W w3 := (K2.mono (fun _ _ _ e => .inl e)).trans ((Kept.drew _ w2).trans (k3.mono (fun _ _ _ e => .inr e)))
        have hrow3 := k3.block _ _ (show w2.drew.heap[w.heap.size]? = some (intB (updN f n v) X.length) from hrow2) (by omega)
        have hbox3 := k3.block _ _ (show w2.drew.heap[w.heap.size + 1]? = _ from hbox2) (by omega)
        have H := HH.out
        refine ⟨kept_from _ K3 (fun i o ho e => ?_), fun i hi hS => ?_, (xi, v) :: L, updN f n v, ?_, hrow3, hbox3, hask3, H.bel.trans (K3.below (by have := H.size; omega) (fun i o _ s => by omega)), Nat.le_trans H.size K3.size, ?_⟩
        · rcases e with rfl | rfl
          · rw [H.row] at ho; cases ho; rfl
          · rw [H.ask] at ho; cases ho; rfl
        · have e1 := Array.getElem?_eq_getElem (show i < W.heap.size by have := H.size; omega)
          rw [K3.block i _ e1 hS, e1]
        · have e2 : ((pre ++ [x]).length : Int) = (pre.length : Int) + 1 := by simp
          rw [e2]
          exact Good.cons (H.good.mono (by omega)) hob.1 (by omega)
        · intro j hj
          obtain ⟨hj1, hj2, hj3⟩ := desc_snoc hj
          obtain ⟨q1, q2⟩ := H.real _ hj2
          rw [hx0] at hj3
          subst hj3
          have q3 : v = (hgt X).getD n 0 := by
            rw [← HV.out, of_most (by omega) xi H.good, q1, ← HX.out, hgt_at X n hj1]
            congr 1
            exact addL_cong X _ _ _ q2
          refine ⟨?_, fun i h1 h2 => ?_⟩
          · rw [addL_step X _ n hj1, HX.out]
            have e3 : updN f n v n = v := by unfold updN; rw [if_pos rfl]
            rw [e3, q1]
            congr 1
            refine addL_cong X _ _ _ fun i h1 h2 => ?_
            unfold updN
            rw [if_neg (by omega)]
          · unfold updN
            by_cases e4 : i = n
            · rw [if_pos e4, e4]; exact q3
            · rw [if_neg e4]; exact q2 i (by omega) h2
      have cb2 := cell_of hbox2 0
      have cg2 : w2.cell? ⟨w.heap.size, n, none⟩ = some (.int .i64 v) := (int_cell hrow2 n hx).trans (by unfold updN; rw [if_pos rfl])
      obtain ⟨p0, p1, p2, p3, p4⟩ := box_cells hbx2
      gi_wp2
      gi_region_with_o (refine ⟨trivial, ?_⟩; gi_at_call 48; refine (tadd w2.drew hask2).mono ?_; rintro e w3 ⟨rfl, hask3, k3⟩)
      gi_wp2
      all_goals exact fin _ hask3 k3
    gi_region_with_o (first
      | (refine ⟨trivial, ?_⟩; gi_at_call 47; refine (tof W.drew hask).mono ?_; rintro e w1 ⟨rfl, g1⟩; have hrow1 := bel_heap g1 (W := W.drew) hrow; have hbox1 := bel_heap g1 (W := W.drew) hbox; have hask1 := bel_heap g1 (W := W.drew) hask; have hbx1 := bel_heap g1 (W := W.drew) hbx; have cb1 := cell_of hbox1 0; have cg1 := int_cell hrow1 n hx; have fg1 := int_fz hrow1 n))
    all_goals
      refine key _ (int_set hrow1 n v) ((heap_set_other (show w.heap.size + 1 ≠ w.heap.size by omega)).trans hbox1) ((heap_set_other (show w.heap.size + 1 + 1 ≠ w.heap.size by omega)).trans hask1) ((heap_set_other (show k ≠ w.heap.size by omega)).trans hbx1) ?_
      exact (kept_bel (Kept.drew _ W) g1).trans (Kept.setCell _ _ _ _ (fun _ _ => rfl))
  case done =>
    rintro D xs W hD rfl ⟨L, f, H⟩ hK
    have c2 := cell_of H.box 0
    gi_wp2
    refine ⟨by simp, .inl ⟨_, _, rfl, run_takeDeferred hK, ?_⟩⟩
    refine ⟨_, results_tmp rfl _ _ _, w.heap.size, X.length, rfl, Nat.le_refl _, ?_, H.bel.trans (belowK_b (w := w) (Nat.le_refl _) W D _ _ (by omega) hK rfl rfl)⟩
    have h2 := H.row
    rw [show intB (fun j => (hgt X).getD j 0) X.length = intB f X.length from intB_cong fun j hj => ((H.real 0 rfl).2 j (Nat.zero_le _) hj).symm]
    exact (World.putObj_heap_other (by have := H.size; omega)).trans h2
  case stop =>
    rintro D c pre W _ _ h _
    exact h.elim
end Go.Proofs.Ytpmofaajkhllpaa
