/-
  The contract of Keeps.
-/
import Derived.Test.YteldmfidcnlfkaaDh
import Derived.Test.YteldmfidcnlfkaaPl10
namespace Go.Proofs.Yteldmfidcnlfkaa
set_option maxRecDepth 20000
set_option linter.unusedVariables false
open Go.ChangeShapes Go.WideShapes Go.ChangeAt Go.RowKit Go.Shelf
attribute [local go_sem] Oper.semAt_some

/-- What the rounds of Keeps keep. -/
structure KInv (w wL : World) (g b bx : Nat) (X : List Ins) (f : Nat → Int) (pre : List (Fin X.length)) (V : World) (L : List (Ins × Int)) : Prop where
  good : Good 10000 L
  row : V.heap[g]? = some (intB f X.length)
  box : V.heap[bx]? = some (.cells #[.slice (some ⟨g, 0, none⟩) X.length X.length] 29)
  ask : V.heap[b]? = some (askL L)
  res : V.heap[w.heap.size]? = some (.cells #[.bool false] 4)
  bel : Below w.heap.size w V
  size : wL.heap.size ≤ V.heap.size
  real : ∀ k, pre = desc X.length k → L = addL X f k ∧ ∀ i, k ≤ i → i < X.length → most (X.getD i Ins.zero) (addL X f (i + 1)) ≤ f i
/-- What is there when a round has said no. -/
structure KBad (w wL : World) (X : List Ins) (f : Nat → Int) (pre : List (Fin X.length)) (V : World) : Prop where
  res : V.heap[w.heap.size]? = some (.cells #[.bool false] 4)
  bel : Below w.heap.size w V
  size : wL.heap.size ≤ V.heap.size
  real : ∀ k, pre = desc X.length k → k < X.length ∧ f k < most (X.getD k Ins.zero) (addL X f (k + 1))
theorem KInv.alloc {w wL : World} {g b bx : Nat} {X : List Ins} {f : Nat → Int} {pre : List (Fin X.length)} {V : World} {L : List (Ins × Int)} (H : KInv w wL g b bx X f pre V L) (hw : w.heap.size ≤ wL.heap.size) (o : Obj) : KInv w wL g b bx X f pre (V.alloc o) L :=
  ⟨H.good, heap_old H.row, heap_old H.box, heap_old H.ask, heap_old H.res, H.bel.alloc (Nat.le_trans hw H.size) o, by rw [World.size_alloc]; exact Nat.le_succ_of_le H.size, H.real⟩

set_option maxRecDepth 100000 in
set_option maxHeartbeats 1000000 in
theorem keeps_any (X : List Ins) (Z : List Int) (v u : Value) (w : World) (hl : X.length ≤ 1000) (hZ : Z.length ≤ 10000) (hv : Code w v X) (hu : Ints .i64 w u Z) :
    Calls Try.prog 16 #[v, u] w fun e w' => e = .returned (.bool (keepsB X Z)) ∧ Bel w w' := by
  obtain ⟨ao, cap, rfl, hcode⟩ := hv
  have HC := hidm hcode
  clear hcode
  have hu1 := hu.bel ((Bel.refl w).alloc (.cells #[.bool false] 4))
  obtain ⟨uo, ucap, rfl, -⟩ := hu
  have hpl := places_one X.length Z _ (w.alloc (.cells #[.bool false] 4)) hl hZ hu1
  clear hu1
  refine (callsIn_wide (n := 6)).1 ?_
  refine callsIn_of_wp_marks Try.func16 rfl trivial ?_ rfl
  simp only [Try.ntmps16, List.size_toArray, List.length_cons, List.length_nil, Nat.reduceAdd, Nat.reduceSub, Array.replicate_succ, Array.replicate_zero, List.push_toArray, List.append_toArray, List.nil_append, List.cons_append]
  gi_wp2_with (refine ⟨trivial, ?_⟩; gi_at_call 25; refine (callsIn_wide.2 hpl).mono ?_; rintro e w1 ⟨u1, b1, rfl, hbh, g1⟩; refine Hid.out ?_)
  have hz1 := g1.size
  rw [World.size_alloc] at hz1
  have B1 := btrans ((Bel.refl w).alloc (.cells #[.bool false] 4)) g1
  have s1 := bel_heap g1 (heap_new w (.cells #[.bool false] 4))
  rcases hbh with ⟨rfl, rfl, hno⟩ | ⟨g, f, rfl, rfl, hg, hrow, hok, hfit⟩
  · have HN := hidm (keepsB_no (X := X) (Z := Z) fun h => hno h.1)
    clear hno hpl g1
    have c1 : w1.cell? ⟨w.heap.size, 0, none⟩ = some (.bool false) := cell_of s1 0
    have f1 := frozen_of s1 0
    have hlt1 : w.heap.size < w1.heap.size := by omega
    refine hidm ?_
    gi_wp2
    have hB9 : Bel w ((w1.setCell ⟨w.heap.size, 0, none⟩ (.bool false)).alloc (.cells #[.slice none 0 0] 29)) := (B1.setCell (Nat.le_refl _) _).alloc _
    refine ⟨.bool false, ?_, by rw [HN.out], hB9⟩
    simp only [results, Try.results16]
    go_simp
  · refine hidm ?_
    gi_wp2_with (first
      | (refine wpListIn_alloc_ask (by rfl) (by rfl) ?_)
      | (refine ⟨trivial, ?_⟩; gi_at_call 24; refine (callsIn_wide.2 (back_any _ _ _ _ rfl _)).mono ?_; rintro e w2 ⟨rfl, rfl⟩))
    rw [World.size_alloc] at hg
    have hrg := lt_of_heap hrow
    have hsz : (((w1.alloc (Obj.cells #[.slice (some ⟨g, 0, none⟩) X.length X.length] 29)).alloc (askL [])).alloc (Obj.cells #[.slice ao X.length cap] 27)).heap.size = w1.heap.size + 1 + 1 + 1 := by simp
    have r0 : (((w1.alloc (Obj.cells #[.slice (some ⟨g, 0, none⟩) X.length X.length] 29)).alloc (askL [])).alloc (Obj.cells #[.slice ao X.length cap] 27)).heap[w.heap.size]? = some (.cells #[.bool false] 4) := heap_old (heap_old (heap_old s1))
    have r1 : (((w1.alloc (Obj.cells #[.slice (some ⟨g, 0, none⟩) X.length X.length] 29)).alloc (askL [])).alloc (Obj.cells #[.slice ao X.length cap] 27)).heap[g]? = some (intB f X.length) := heap_old (heap_old (heap_old hrow))
    have r2 : (((w1.alloc (Obj.cells #[.slice (some ⟨g, 0, none⟩) X.length X.length] 29)).alloc (askL [])).alloc (Obj.cells #[.slice ao X.length cap] 27)).heap[w1.heap.size]? = some (Obj.cells #[.slice (some ⟨g, 0, none⟩) X.length X.length] 29) := heap_old (heap_old (heap_new _ _))
    have r3 : (((w1.alloc (Obj.cells #[.slice (some ⟨g, 0, none⟩) X.length X.length] 29)).alloc (askL [])).alloc (Obj.cells #[.slice ao X.length cap] 27)).heap[w1.heap.size + 1]? = some (askL []) := heap_old (heap_newN (by simp))
    have r4 : (((w1.alloc (Obj.cells #[.slice (some ⟨g, 0, none⟩) X.length X.length] 29)).alloc (askL [])).alloc (Obj.cells #[.slice ao X.length cap] 27)).heap[w1.heap.size + 1 + 1]? = some (Obj.cells #[.slice ao X.length cap] 27) := heap_newN (by simp)
    have B0 : Bel w (((w1.alloc (Obj.cells #[.slice (some ⟨g, 0, none⟩) X.length X.length] 29)).alloc (askL [])).alloc (Obj.cells #[.slice ao X.length cap] 27)) := ((B1.alloc _).alloc _).alloc _
    generalize (((w1.alloc (Obj.cells #[.slice (some ⟨g, 0, none⟩) X.length X.length] 29)).alloc (askL [])).alloc (Obj.cells #[.slice ao X.length cap] 27)) = wL at hsz r0 r1 r2 r3 r4 B0 ⊢
    clear hpl g1 B1 s1 hrow
    have HK0 := hidm hok
    have HFIT := hidm hfit
    have hfb : ∀ j, j < X.length → 0 ≤ f j ∧ f j ≤ 10000 := fun j hj => by have := fits_bd hfit hok j hj; omega
    have HFB := hidm hfb
    clear hok hfit hfb
    have hcL : HeldC wL.heap.size (fun k => k = w1.heap.size + 1) wL ao X := fun hp => by
      obtain ⟨g, o, e, hg, hc⟩ := HC.out hp
      exact ⟨g, o, e, by omega, by omega, hc.stay hg B0⟩
    refine wpIn_rangeFunc_ownH rfl (by omega) (gf := 32) (lb := #[.pointer (some ⟨w1.heap.size + 1 + 1, 0, none⟩)]) rfl trivial (enters_of Try.func32 (by kernel_rfl) rfl)
      (back_stops Fence.wide 5 trivial rfl (by omega) (w1.heap.size + 1 + 1) wL.heap.size (fun k => k = w1.heap.size + 1) ao cap X (by omega) wL r4 (by omega) (by omega) (Nat.le_refl _) hcL) keepX_t (keepX_b (Nat.le_refl _)) (Below.refl _ _) (fun _ => rfl)
      (fun pre V => ∃ L, KInv w wL g (w1.heap.size + 1) w1.heap.size X f pre V L)
      (fun c pre V => c = .ret ∧ KBad w wL X f pre V) ?hI ?hIx ?h0
      (fun x a' V => ∃ k, wL.heap.size ≤ k ∧ V.heap[k]? = some (.cells #[.int .i64 (X.getD x.val Ins.zero).o, .int .i64 (X.getD x.val Ins.zero).a, .int .i64 (X.getD x.val Ins.zero).b, .int .i64 (X.getD x.val Ins.zero).c, .int .i64 (X.getD x.val Ins.zero).i] 23) ∧ a' = { tmps := #[.slice ao X.length cap, .slice uo Z.length ucap, undef, undef, .pointer (some ⟨w.heap.size, 0, none⟩), .pointer (some ⟨w1.heap.size, 0, none⟩), .bool true, .pointer (some ⟨w1.heap.size + 1, 0, none⟩), .int .i64 (x.val : Nat), .pointer (some ⟨k, 0, none⟩), .tuple #[.slice (some ⟨g, 0, none⟩) X.length X.length, .bool true], .slice ao X.length cap, .int .i64 X.length, .slice uo Z.length ucap, .tuple #[.slice (some ⟨g, 0, none⟩) X.length X.length, .bool true], .slice (some ⟨g, 0, none⟩) X.length X.length, .bool true, .bool true, .bool false, .slice ao X.length cap, .func (.func 32) #[] #[.pointer (some ⟨w1.heap.size + 1 + 1, 0, none⟩)], .int .i64 (x.val : Nat), .agg #[.int .i64 (X.getD x.val Ins.zero).o, .int .i64 (X.getD x.val Ins.zero).a, .int .i64 (X.getD x.val Ins.zero).b, .int .i64 (X.getD x.val Ins.zero).c, .int .i64 (X.getD x.val Ins.zero).i], undef, undef, undef, undef, undef, undef, undef, undef, undef, undef, undef, undef, undef], defers := [] })
      ?hAx ?assign ?body ?done ?stop
    case hI =>
      rintro pre A A' row ⟨L, H⟩ hgr hr
      have hsA := H.size
      exact ⟨L, H.good, own_cells hgr hr H.row, own_cells hgr hr H.box, own_cells hgr hr H.ask, own_cells hgr hr H.res, (H.bel.grown hgr (by omega) (fun r e => by have := (hr r e).1; omega)), Nat.le_trans H.size hgr.size, H.real⟩
    case hIx =>
      rintro c pre A A' row ⟨hc, H⟩ hgr hr
      have hsA := H.size
      exact ⟨hc, own_cells hgr hr H.res, (H.bel.grown hgr (by omega) (fun r e => by have := (hr r e).1; omega)), Nat.le_trans H.size hgr.size, H.real⟩
    case h0 =>
      exact ⟨[], fun p hp => absurd hp (by simp), r1, r2, r3, r0, B0, Nat.le_refl _, fun k hk => by
        have hk' := congrArg List.length hk
        rw [desc_len] at hk'
        simp at hk'
        exact ⟨(addL_end X _ k (by omega)).symm, fun j h1 h2 => by omega⟩⟩
    case hAx =>
      rintro x a' _ A A' row ⟨k, hk, hb, e⟩ hgr hr
      exact ⟨k, hk, own_cells hgr hr hb, e⟩
    case assign =>
      rintro l pre x W K ⟨L, H⟩ hK
      have hsz2 := H.size
      have H2 := H.alloc (by omega) (Obj.cells #[.int .i64 (X.getD x.val Ins.zero).o, .int .i64 (X.getD x.val Ins.zero).a, .int .i64 (X.getD x.val Ins.zero).b, .int .i64 (X.getD x.val Ins.zero).c, .int .i64 (X.getD x.val Ins.zero).i] 23)
      unfold encI Ins.val
      generalize X.getD x.val Ins.zero = xi at hK H2 ⊢
      gi_wp2
      exact hK _ _ (alloc_from _ _ _) (alloc_keepX hsz2 _) ⟨L, H2⟩ ⟨W.heap.size, hsz2, heap_new _ _, rfl⟩
    case body =>
      rintro l pre x a' W hll ⟨r, hr⟩ ⟨L, H⟩ ⟨k, hk, hbx, rfl⟩ hlt
      have hx := x.isLt
      have hgood := H.good
      have hm : Good 1000000 L := hgood.mono (by omega)
      generalize hxi : X.getD x.val Ins.zero = xi at hbx
      have tof : ∀ (ww : World), ww.heap[w1.heap.size + 1]? = some (askL L) → CallsIn (Fence.wide.inRound l) 3 Try.prog 22 #[.pointer (some ⟨w1.heap.size + 1, 0, none⟩), xi.val] ww fun e w' => e = .returned (.int .i64 (ofM xi L)) ∧ Bel ww w' := fun ww h => CallsIn.inRound l (callsIn_wide.2 (of_any xi _ L ww hm h))
      have hfx := HFB.out x.val hx
      have tadd : ∀ (ww : World), ww.heap[w1.heap.size + 1]? = some (askL L) → CallsIn (Fence.wide.inRound l) 3 Try.prog 21 #[.pointer (some ⟨w1.heap.size + 1, 0, none⟩), xi.val, .int .i64 (f x.val)] ww fun e w' => e = .returned (.tuple #[]) ∧ w'.heap[w1.heap.size + 1]? = some (askL ((xi, f x.val) :: L)) ∧ Kept (fun k _ => k = w1.heap.size + 1) ww w' := fun ww h => CallsIn.inRound l (callsIn_wide.2 (add_any xi _ _ L ww (by omega) (by omega) h))
      have hrow := H.row
      have hask := H.ask
      have hbox := H.box
      have hres := H.res
      have HH := hidm H
      have HX := hidm hxi
      clear hxi
      have cb := cell_of hbox 0
      have cg := int_cell hrow x.val hx
      obtain ⟨p0, p1, p2, p3, p4⟩ := box_cells hbx
      generalize hv : ofM xi L = v at tof
      have HV := hidm hv
      clear hv H hgood hm
      generalize hx0 : x.val = n at *
      generalize hfn : f n = y at *
      have HY := hidm hfn
      clear hfn
      unfold Ins.val at tof tadd
      have hn1 : (n : Int) < X.length := by omega
      have hmo : Try.prog.follows .mixedOrders = true := by kernel_rfl
      by_cases hvi : y < v
      · have HVI := hidm hvi
        gi_wp2
        rename Act → World → Prop => KK
        rename ∀ _ _, _ => hKK
        have key : ∀ w2 : World, Bel W.drew w2 → KK { tmps := #[.slice ao X.length cap, .slice uo Z.length ucap, undef, undef, .pointer (some ⟨w.heap.size, 0, none⟩), .pointer (some ⟨w1.heap.size, 0, none⟩), .bool true, .pointer (some ⟨w1.heap.size + 1, 0, none⟩), .int .i64 (n : Nat), .pointer (some ⟨k, 0, none⟩), .tuple #[.slice (some ⟨g, 0, none⟩) X.length X.length, .bool true], .slice ao X.length cap, .int .i64 X.length, .slice uo Z.length ucap, .tuple #[.slice (some ⟨g, 0, none⟩) X.length X.length, .bool true], .slice (some ⟨g, 0, none⟩) X.length X.length, .bool true, .bool true, .bool false, .slice ao X.length cap, .func (.func 32) #[] #[.pointer (some ⟨w1.heap.size + 1 + 1, 0, none⟩)], .int .i64 (n : Nat), .agg #[.int .i64 xi.o, .int .i64 xi.a, .int .i64 xi.b, .int .i64 xi.c, .int .i64 xi.i], .slice (some ⟨g, 0, none⟩) X.length X.length, .int .i64 (n : Nat), .pointer (some ⟨g, n, none⟩), .int .i64 y, .agg #[.int .i64 xi.o, .int .i64 xi.a, .int .i64 xi.b, .int .i64 xi.c, .int .i64 xi.i], .int .i64 v, .bool true, undef, undef, undef, undef, undef, undef], defers := [] } w2 := by
          intro w2 g2
          refine hKK _ _ ?_
          have hres2 := bel_heap g2 (W := W.drew) hres
          have cr : w2.cell? ⟨w.heap.size, 0, none⟩ = some (.bool false) := cell_of hres2 0
          have fr := frozen_of hres2 0
          clear cb cg p0 p1 p2 p3 p4 tof tadd
          gi_wp2
          have H := HH.out
          have hsW := H.size
          have hs2 := g2.size
          have hsd : W.drew.heap.size = W.heap.size := rfl
          have K3 : Kept (fun i _ => i = w.heap.size) W (w2.setCell ⟨w.heap.size, 0, none⟩ (.bool false)) := (kept_bel (Kept.drew _ W) g2).trans (Kept.setCell _ _ _ _ (fun _ _ => rfl))
          refine ⟨kept_from _ K3 (fun i o ho e => ?_), rfl, (heap_set_same hres2).trans rfl, H.bel.trans (K3.below (by omega) (fun i o _ s => by omega)), by rw [size_set]; omega, ?_⟩
          · subst e
            rw [hres] at ho; cases ho; rfl
          · intro j hj
            obtain ⟨hj1, hj2, hj3⟩ := desc_snoc hj
            obtain ⟨q1, q2⟩ := H.real _ hj2
            rw [hx0] at hj3
            subst hj3
            refine ⟨hj1, ?_⟩
            rw [HX.out, HY.out, ← q1, ← of_most (by omega) xi H.good, HV.out]
            exact HVI.out
        gi_region_with_o (first
          | (refine ⟨trivial, ?_⟩; gi_at_call 22; refine (tof W.drew hask).mono ?_; rintro e w2 ⟨rfl, g2⟩; have hrow1 := bel_heap g2 (W := W.drew) hrow; have hbox1 := bel_heap g2 (W := W.drew) hbox; have cb1 := cell_of hbox1 0; have cg1 := (int_cell hrow1 n hx).trans (by rw [HY.out])))
        all_goals exact key _ g2
      · have HVI := hidm hvi
        have hvi2 : v ≤ y := by omega
        clear hvi
        gi_wp2
        rename Act → World → Prop => KK
        rename ∀ _ _, _ => hKK
        have key : ∀ w2 : World, Bel W.drew w2 → KK { tmps := #[.slice ao X.length cap, .slice uo Z.length ucap, undef, undef, .pointer (some ⟨w.heap.size, 0, none⟩), .pointer (some ⟨w1.heap.size, 0, none⟩), .bool true, .pointer (some ⟨w1.heap.size + 1, 0, none⟩), .int .i64 (n : Nat), .pointer (some ⟨k, 0, none⟩), .tuple #[.slice (some ⟨g, 0, none⟩) X.length X.length, .bool true], .slice ao X.length cap, .int .i64 X.length, .slice uo Z.length ucap, .tuple #[.slice (some ⟨g, 0, none⟩) X.length X.length, .bool true], .slice (some ⟨g, 0, none⟩) X.length X.length, .bool true, .bool true, .bool false, .slice ao X.length cap, .func (.func 32) #[] #[.pointer (some ⟨w1.heap.size + 1 + 1, 0, none⟩)], .int .i64 (n : Nat), .agg #[.int .i64 xi.o, .int .i64 xi.a, .int .i64 xi.b, .int .i64 xi.c, .int .i64 xi.i], .slice (some ⟨g, 0, none⟩) X.length X.length, .int .i64 (n : Nat), .pointer (some ⟨g, n, none⟩), .int .i64 y, .agg #[.int .i64 xi.o, .int .i64 xi.a, .int .i64 xi.b, .int .i64 xi.c, .int .i64 xi.i], .int .i64 v, .bool (decide (y < v)), undef, undef, undef, undef, undef, undef], defers := [] } w2 := by
          intro w2 g2
          rw [show decide (y < v) = false from decide_eq_false (by omega)]
          refine hKK _ _ ?_
          have hrow2 := bel_heap g2 (W := W.drew) hrow
          have hbox2 := bel_heap g2 (W := W.drew) hbox
          have hask2 := bel_heap g2 (W := W.drew) hask
          have hbx2 := bel_heap g2 (W := W.drew) hbx
          have hres2 := bel_heap g2 (W := W.drew) hres
          have fin : ∀ w3 : World, w3.heap[w1.heap.size + 1]? = some (askL ((xi, y) :: L)) → Kept (fun k _ => k = w1.heap.size + 1) w2.drew w3 → KeepsFrom wL.heap.size W w3 ∧ KeepX wL.heap.size (fun k => k = w1.heap.size + 1) W w3 ∧ ∃ L, KInv w wL g (w1.heap.size + 1) w1.heap.size X f (pre ++ [x]) w3 L := by
            intro w3 hask3 k3
            have H := HH.out
            have hsW := H.size
            have K3 : Kept (fun i _ => i = w1.heap.size + 1) W w3 := ((kept_bel (Kept.drew _ W) g2).trans (Kept.drew _ w2)).trans k3
            have hrow3 := k3.block _ _ (show w2.drew.heap[g]? = some (intB f X.length) from hrow2) (by omega)
            have hbox3 := k3.block _ _ (show w2.drew.heap[w1.heap.size]? = _ from hbox2) (by omega)
            have hres3 := k3.block _ _ (show w2.drew.heap[w.heap.size]? = _ from hres2) (by omega)
            refine ⟨kept_from _ K3 (fun i o ho e => ?_), fun i hi hS => ?_, (xi, y) :: L, Good.cons H.good hfx.1 hfx.2, hrow3, hbox3, hask3, hres3, H.bel.trans (K3.below (by omega) (fun i o _ s => by omega)), Nat.le_trans H.size K3.size, ?_⟩
            · subst e
              rw [H.ask] at ho; cases ho; rfl
            · have e1 := Array.getElem?_eq_getElem (show i < W.heap.size by omega)
              rw [K3.block i _ e1 hS, e1]
            · intro j hj
              obtain ⟨hj1, hj2, hj3⟩ := desc_snoc hj
              obtain ⟨q1, q2⟩ := H.real _ hj2
              rw [hx0] at hj3
              subst hj3
              refine ⟨by rw [addL_step X f n hj1, HX.out, HY.out, q1], fun i h1 h2 => ?_⟩
              by_cases e4 : i = n
              · rw [e4, HX.out, HY.out, ← q1, ← of_most (by omega) xi H.good, HV.out]
                exact hvi2
              · exact q2 i (by omega) h2
          clear cb cg p0 p1 p2 p3 p4 tof
          have cb2 := cell_of hbox2 0
          have cg2 : w2.cell? ⟨g, n, none⟩ = some (.int .i64 y) := (int_cell hrow2 n hx).trans (by rw [HY.out])
          obtain ⟨p0, p1, p2, p3, p4⟩ := box_cells hbx2
          gi_wp2
          gi_region_with_o (refine ⟨trivial, ?_⟩; gi_at_call 21; refine (tadd w2.drew hask2).mono ?_; rintro e w3 ⟨rfl, hask3, k3⟩)
          gi_wp2
          all_goals exact fin _ hask3 k3
        gi_region_with_o (first
          | (refine ⟨trivial, ?_⟩; gi_at_call 22; refine (tof W.drew hask).mono ?_; rintro e w2 ⟨rfl, g2⟩; have hrow1 := bel_heap g2 (W := W.drew) hrow; have hbox1 := bel_heap g2 (W := W.drew) hbox; have cb1 := cell_of hbox1 0; have cg1 := (int_cell hrow1 n hx).trans (by rw [HY.out])))
        all_goals exact key _ g2
    case done =>
      rintro D xs W hD rfl ⟨L, H⟩ hK
      have hres := H.res
      have cr : W.cell? ⟨w.heap.size, 0, none⟩ = some (.bool false) := cell_of hres 0
      have fr := frozen_of hres 0
      have HE : Hid (keepsB X Z = true) := (keepsB_iff X Z).2 ((keeps_fits HFIT.out HK0.out).2 ((keep_most X f (fun j hj => (HFB.out j hj).1)).2 fun i hi => (H.real 0 rfl).2 i (Nat.zero_le _) hi))
      have hsW := H.size
      have hK2 : (W.setCell ⟨w.heap.size, 0, none⟩ (.bool true)).heap[D]? = some (.deferred (some [])) := (heap_set_other (by omega)).trans hK
      have zf : ((W.setCell ⟨w.heap.size, 0, none⟩ (.bool true)).putObj D (.deferred none)).heap[w.heap.size]? = some (.cells #[.bool true] 4) := (World.putObj_heap_other (by omega)).trans ((heap_set_same hres).trans rfl)
      have cf : ((W.setCell ⟨w.heap.size, 0, none⟩ (.bool true)).putObj D (.deferred none)).cell? ⟨w.heap.size, 0, none⟩ = some (.bool true) := cell_of zf 0
      have hb1 : Bel w (W.setCell ⟨w.heap.size, 0, none⟩ (.bool true)) := Bel.setCell (p := ⟨w.heap.size, 0, none⟩) H.bel (Nat.le_refl _) _
      have hB9 : Bel w ((W.setCell ⟨w.heap.size, 0, none⟩ (.bool true)).putObj D (.deferred none)) := hb1.out.trans (belowK_b (w := w) (Nat.le_refl _) _ D _ _ (by omega) hK2 rfl rfl)
      gi_wp2
      refine ⟨by simp, .inl ⟨_, _, rfl, run_takeDeferred hK2, ?_⟩⟩
      refine ⟨.bool true, ?_, by rw [HE.out], hB9⟩
      simp only [results, Try.results16]
      go_simp
    case stop =>
      rintro D c pre W hD ⟨k, hp⟩ ⟨rfl, H⟩ hK
      have hres := H.res
      obtain ⟨q1, q2⟩ := H.real k hp
      have HE : Hid (keepsB X Z = false) := keepsB_no fun h => by
        have := (keep_most X f (fun j hj => (HFB.out j hj).1)).1 ((keeps_fits HFIT.out HK0.out).1 h) k q1
        omega
      have hsW := H.size
      have zf : (W.putObj D (.deferred none)).heap[w.heap.size]? = some (.cells #[.bool false] 4) := (World.putObj_heap_other (by omega)).trans hres
      have cf : (W.putObj D (.deferred none)).cell? ⟨w.heap.size, 0, none⟩ = some (.bool false) := cell_of zf 0
      have hB9 : Bel w (W.putObj D (.deferred none)) := Below.trans H.bel (belowK_b (w := w) (Nat.le_refl _) _ D _ _ (by omega) hK rfl rfl)
      gi_wp2
      refine ⟨by simp, .inl ⟨_, _, rfl, run_takeDeferred hK, ?_⟩⟩
      refine ⟨.bool false, ?_, by rw [HE.out], hB9⟩
      simp only [results, Try.results16]
      go_simp
end Go.Proofs.Yteldmfidcnlfkaa
