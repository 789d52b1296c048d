/-
  The contract of queued: what a queue tells of all.
-/
import Derived.Test.YtfgejepjiifmlaaQAll
import Derived.Test.YtfgejepjiifmlaaSl
import Derived.Maps.OwnIn
import Derived.Maps.AppendAt
namespace Go.Proofs.Ytfgejepjiifmlaa
set_option linter.unusedVariables false
open Go.ChangeShapes Go.WideShapes Go.ChangeAt Go.RowKit Go.Shelf
attribute [local go_sem] Oper.semAt_some

theorem qall_stops (F : Fence) (n : Nat) (h33 : F.fn 33) (hro : F.round = none) (hn : 1 ≤ n) (B1 B2 n₁ : Nat) (X : Nat → Prop) (ks : List (Nat × Int)) (hlen : ks.length < 1000000000) (w : World)
    (b1 : Boxed w B1 23 (.pointer (hdq ks))) (b2 : Boxed w B2 23 (.pointer (lsq ks))) (hB2 : B2 < n₁ ∧ ¬ X B2)
    (hL : Links w ks) (hnd : (ks.map Prod.fst).Nodup) (hk : ∀ p ∈ ks, p.1 < n₁ ∧ ¬ X p.1) :
    SeqStopsK F n Try.prog 33 #[.pointer (some ⟨B1, 0, none⟩), .pointer (some ⟨B2, 0, none⟩)] (fun p : Nat × Int => #[.int .i64 p.1, .int .i64 p.2]) (KeepX n₁ X) (fun ys => ys = toldFrom 0 ks) (fun pre => pre <+: toldFrom 0 ks) ks.length w :=
  fun l J Jx W hW hJ hJx hY h0 => by
    have hl : Links W ks := hL.kept fun p hp => by obtain ⟨q, hq⟩ := hL.at p hp; exact hW.block _ (lt_of_heap hq)
    exact qall1_in F n h33 hro hn l B1 B2 n₁ X ks hlen J Jx (fun pre W' h => hJ pre W' _ none h (drew_grown W') (fun r e => by cases e)) hY W ((hW.block _ b1.lt).trans b1) ((hW.block _ b2.lt).trans b2) hB2 hl hnd hk h0

/-- Are the places right? -/
def rightB (pre : List (Nat × Int)) : Bool := decide (pre.map Prod.fst = List.range pre.length)
theorem rightB_snoc (pre : List (Nat × Int)) (x : Nat × Int) : rightB (pre ++ [x]) = (rightB pre && ((x.1 : Int) == (pre.length : Int))) := by
  rw [Bool.eq_iff_iff, Bool.and_eq_true, beq_iff_eq]
  simp only [rightB, decide_eq_true_eq, List.map_append, List.map_cons, List.map_nil, List.length_append, List.length_cons, List.length_nil, List.range_succ, Nat.zero_add]
  constructor
  · intro h
    have := List.append_inj' h rfl
    exact ⟨this.1, by have := this.2; injection this with this; omega⟩
  · rintro ⟨h, e⟩
    rw [h, show x.1 = pre.length by omega]
theorem toldFrom_fst (i : Nat) (ks : List (Nat × Int)) : (toldFrom i ks).map Prod.fst = List.range' i ks.length := by
  induction ks generalizing i with
  | nil => rfl
  | cons y r ih => simp [toldFrom, ih, List.range'_succ]
theorem toldFrom_snd (i : Nat) (ks : List (Nat × Int)) : (toldFrom i ks).map Prod.snd = ks.map Prod.snd := by
  induction ks generalizing i with
  | nil => rfl
  | cons y r ih => simp [toldFrom, ih]
theorem rightB_told (ks : List (Nat × Int)) : rightB (toldFrom 0 ks) = true := by
  rw [rightB, decide_eq_true_eq, toldFrom_fst, toldFrom_length, List.range_eq_range']
theorem eql_func_nil (w : World) (t : TypeId) {x : Array TypeId} {y : Array TypeId} {z : Bool} (fn : Fn) (a c : Array Value) (ht : Try.prog.underlying t = some (.func x y z)) : (binOp .eql t (.func fn a c) .nilFunc).run Try.prog w = .ok (.bool false) w := by
  have h : ∀ d : Nat, (Op.equalIn (d + 1) t (.func fn a c) .nilFunc).run Try.prog w = .ok false w := fun d => by
    simp [Op.equalIn, run_underlying ht]
  simp only [binOp]
  simp [Op.equal, Op.maxDepth, h 9999]

theorem Kept.keepX {S : Nat → Obj → Prop} {n₁ : Nat} {X : Nat → Prop} {W W' : World} (h : Kept S W W') (hn : n₁ ≤ W.heap.size) (hs : ∀ k o, S k o → X k ∨ n₁ ≤ k) : KeepX n₁ X W W' := fun k hk hx => by
  have e := Array.getElem?_eq_getElem (show k < W.heap.size by omega)
  rw [h.block k _ e (fun s => by rcases hs _ _ s with s | s; exact hx s; omega), e]
theorem one_cell {W V : World} {x : Value} {t : TypeId} (hs : V.heap.size = W.heap.size) : ∀ j u, [x][j]? = some u → (V.alloc (.cells #[x] t)).cell? ((⟨W.heap.size, 0, none⟩ : Addr).add j) = some u := by
  intro j u hj
  match j, hj with
  | 0, hj =>
    have := heap_new V (.cells #[x] t)
    rw [hs] at this
    have e : (⟨W.heap.size, 0, none⟩ : Addr).add 0 = ⟨W.heap.size, 0, none⟩ := by unfold Addr.add; rfl
    rw [e]
    exact (cell_of this 0).trans hj
theorem row_base {n₀ n₁ : Nat} {e : TypeId} {W : World} {v : Value} {n : Nat} {xs : List Value} (h : W.ownsRow n₁ e 1 v n xs) (hn : n₀ ≤ n₁) : W.ownsRow n₀ e 1 v n xs := by
  refine ⟨h.1, ?_⟩
  rcases h.2 with hx | ⟨g, cap, cur, rfl, hb, r⟩
  · exact .inl hx
  · exact .inr ⟨g, cap, cur, rfl, Nat.le_trans hn hb, r⟩
/-- 'out = append(out, x)', out in the box Bo, its row from n₁ on. -/
theorem appended {W w2 : World} {n₁ Bo : Nat} {t e : TypeId} {v v' : Value} {k m : Nat} {xs ys : List Value} {tmp : Obj} (hv : Boxed W Bo t v) (hBo : Bo < n₁) (hn : n₁ ≤ W.heap.size) (hrow : W.ownsRow n₁ e 1 v k xs)
    (hown : w2.ownsRow n₁ e 1 v' m ys) (hg : (W.alloc tmp).grownBy w2 v.ownBlock) :
    Boxed w2 Bo t v ∧ Boxed (w2.setCell ⟨Bo, 0, none⟩ v') Bo t v' ∧ (w2.setCell ⟨Bo, 0, none⟩ v').ownsRow n₁ e 1 v' m ys ∧ KeepsOthers W (w2.setCell ⟨Bo, 0, none⟩ v') ∧ Kept (fun k _ => k = Bo ∨ n₁ ≤ k) W (w2.setCell ⟨Bo, 0, none⟩ v') := by
  have hlt : ∀ g, v.ownBlock = some g → n₁ ≤ g := fun g hg => (hrow.lt g hg).1
  have hv1 : Boxed w2 Bo t v := (hv.alloc tmp).kept hg (fun e => by have := hlt Bo e.symm; omega)
  refine ⟨hv1, hv1.set v', ownsRow_setCell_below hown hBo v', ?_, ?_⟩
  · refine ((KeepsOthers.alloc W tmp).trans (KeepsOthers.of_grownBy hg fun j o ej hj => ?_)).trans (KeepsOthers.setCell _ _ _)
    rcases (hrow.alloc tmp).2 with ⟨rfl, _⟩ | ⟨g, cap, cur, rfl, _, hgb, _⟩
    · simp [Value.ownBlock] at ej
    · obtain rfl : g = j := by simpa [Value.ownBlock] using ej
      rw [hgb] at hj; cases hj; rfl
  · exact ((Kept.alloc _ W tmp).trans (Kept.grown hg (fun k o e _ => .inr (hlt k e)))).trans (Kept.setCell _ w2 ⟨Bo, 0, none⟩ v' (fun o _ => .inl rfl))

set_option maxRecDepth 100000 in
set_option maxHeartbeats 2000000 in
theorem queued_any (n₀ b : Nat) (ks : List (Nat × Int)) (w : World) (h : IsQ n₀ w b ks) (hlen : ks.length < 1000000) :
    Calls Try.prog 12 #[.pointer (some ⟨b, 0, none⟩)] w fun e W' => ∃ v, e = .returned (.tuple #[v, .bool true]) ∧ W'.ownsRow w.heap.size 3 1 v ks.length ((ks.map Prod.snd).map (Value.int .i64)) ∧ Bel w W' := by
  obtain ⟨i0, hi, hz0, hz1, hz2⟩ := info_parts intInfo
  have hb := lt_of_heap h.box
  refine (callsIn_wide (n := 4)).1 ?_
  refine callsIn_of_wp_marks Try.func12 rfl trivial ?_ rfl
  simp only [Try.ntmps12, List.size_toArray, List.length_cons, List.length_nil, Nat.reduceAdd, Nat.reduceSub, Array.replicate_succ, Array.replicate_zero, List.push_toArray, List.append_toArray, List.nil_append, List.cons_append]
  have Ba : Bel w ((w.alloc (.cells #[.slice none 0 0] 22)).alloc (.cells #[.bool true] 4)) := ((Bel.refl w).alloc _).alloc _
  have heq := fun (w : World) (B1 B2 : Nat) => eql_func_nil w 48 (.func 33) #[] #[.pointer (some ⟨B1, 0, none⟩), .pointer (some ⟨B2, 0, none⟩)] Try.underlying48
  gi_wp2_with (refine ⟨trivial, ?_⟩; gi_at_call 23; refine (callsIn_wide.2 (all_any n₀ b ks _ (h.bel Ba))).mono ?_; rintro e w1 ⟨B1, B2, rfl, l1, l2, hs1, x1, x2, bel1⟩)
  simp only [World.size_alloc] at l1 l2 hs1
  have bO : Boxed w1 w.heap.size 22 (.slice none 0 0) := (bel1.out.block _ (by simp; omega)).trans ((Boxed.new w _ _).alloc _)
  have bK : Boxed w1 (w.heap.size + 1) 4 (.bool true) := by
    have := Boxed.new (w.alloc (.cells #[.slice none 0 0] 22)) 4 (.bool true)
    rw [World.size_alloc] at this
    exact (bel1.out.block _ (by simp)).trans this
  have Bw : Bel w w1 := btrans Ba bel1
  have q1 := h.bel Bw
  have hsz := Bw.size
  have hlow : ∀ p ∈ ks, p.1 < w1.heap.size ∧ ¬ (p.1 = w.heap.size ∨ p.1 = w.heap.size + 1) := fun p hp => by
    obtain ⟨q, hq⟩ := h.links.at p hp
    have := lt_of_heap hq
    omega
  refine wpIn_rangeFunc_ownG rfl (by omega) (gf := 33) (lb := #[.pointer (some ⟨B1, 0, none⟩), .pointer (some ⟨B2, 0, none⟩)]) rfl trivial (enters_of Try.func33 (by kernel_rfl) rfl)
    (qall_stops Fence.wide 3 trivial rfl (by omega) B1 B2 w1.heap.size (fun k => k = w.heap.size ∨ k = w.heap.size + 1) ks (by omega) w1 x1 x2 ⟨x2.lt, by omega⟩ q1.links q1.nodup hlow) keepX_t (keepX_b (Nat.le_refl _)) (Below.refl _ _) (fun _ => rfl)
    (fun (pre : List (Nat × Int)) W => (∃ v, Boxed W w.heap.size 22 v ∧ W.ownsRow w1.heap.size 3 1 v pre.length ((pre.map Prod.snd).map (Value.int .i64)) ∧ True) ∧ Boxed W (w.heap.size + 1) 4 (.bool (rightB pre)) ∧ Below w.heap.size w W ∧ w1.heap.size ≤ W.heap.size)
    (fun _ _ _ => False)
    (OwnFrom.and (Own.from (holdsRow_own w1.heap.size w.heap.size 22 3 1 (fun pre : List (Nat × Int) => pre.length) (fun pre => (pre.map Prod.snd).map (Value.int .i64)) (fun _ _ => True)) _) (OwnFrom.and (Own.from (boxed_own (w.heap.size + 1) 4 (fun pre => .bool (rightB pre))) _) (OwnFrom.and (ownFrom_below (Nat.le_refl _) hsz) (fun _ _ _ _ hs hg _ => Nat.le_trans hs hg.size))))
    (fun _ _ _ _ _ hs _ _ => hs)
    ⟨⟨_, bO, World.ownsRow_nil _ _ _ _, trivial⟩, bK, Bw, Nat.le_refl _⟩
    (fun x : Nat × Int => { tmps := #[.pointer (some ⟨b, 0, none⟩), undef, .slice none 0 0, .bool false, .pointer (some ⟨w.heap.size, 0, none⟩), .pointer (some ⟨w.heap.size + 1, 0, none⟩), .func (.func 33) #[] #[.pointer (some ⟨B1, 0, none⟩), .pointer (some ⟨B2, 0, none⟩)], .int .i64 x.1, .int .i64 x.2, .pointer (some ⟨b, 0, none⟩), .func (.func 33) #[] #[.pointer (some ⟨B1, 0, none⟩), .pointer (some ⟨B2, 0, none⟩)], .func (.func 33) #[] #[.pointer (some ⟨B1, 0, none⟩), .pointer (some ⟨B2, 0, none⟩)], .bool false, .func (.func 33) #[] #[.pointer (some ⟨B1, 0, none⟩), .pointer (some ⟨B2, 0, none⟩)], .int .i64 x.1, .int .i64 x.2, undef, undef, undef, undef, undef, undef, undef, undef, undef, undef, undef, undef, undef], defers := [] }) ?assign ?body ?done ?stop
  case assign =>
    intro l x W K hK
    gi_wp2
    exact hK
  case body =>
    rintro l pre x W ⟨⟨v, hv, hrow, _⟩, hk, hB, hle⟩ hlt
    have hc := hv.cell
    have hkc := hk.cell
    have hkf := hk.frozen
    obtain ⟨ao, cap, hva⟩ := slice_of hrow
    subst hva
    have hlen2 : pre.length < 1000000 := by omega
    have hsn := rightB_snoc pre x
    have HS : Hid (rightB (pre ++ [x]) = (rightB pre && ((x.1 : Int) == (pre.length : Int)))) := hsn
    clear hsn
    have hv2 : ∀ u, Boxed (W.setCell ⟨w.heap.size + 1, 0, none⟩ u) w.heap.size 22 (.slice ao pre.length cap) := fun u => hv.other (by omega) u
    have hrow2 : ∀ u, (W.setCell ⟨w.heap.size + 1, 0, none⟩ u).ownsRow w1.heap.size 3 1 (.slice ao pre.length cap) pre.length ((pre.map Prod.snd).map (Value.int .i64)) := fun u => ownsRow_setCell_below hrow (by simp; omega) u
    have hK5 : ∀ u W3, Kept (fun k _ => k = w.heap.size ∨ w1.heap.size ≤ k) (W.setCell ⟨w.heap.size + 1, 0, none⟩ u) W3 → Kept (fun k _ => (k = w.heap.size ∨ k = w.heap.size + 1) ∨ w1.heap.size ≤ k) W W3 := fun u W3 hk =>
      (Kept.setCell _ W ⟨w.heap.size + 1, 0, none⟩ u (fun o _ => .inl (.inr rfl))).trans (hk.mono (fun k o _ s => s.elim (fun e => .inl (.inl e)) .inr))
    generalize rightB pre = r at hk hkc HS
    cases r with
    | true =>
      gi_wp2_with (gi_at_builtin; refine wpListIn_append_own _ rfl _ _ 22 rfl w1.heap.size 3 i0 (.int .i64 0) 1 8 Try.underlying22 hi hz0 hz1 hz2 rfl (by decide) _ _ _ rfl ((hrow2 _).alloc _) ⟨W.heap.size, 0, none⟩ 1 1 [.int .i64 x.2] rfl rfl (one_cell (size_set _ _ _)) (by intro u hu; simp at hu; subst hu; rfl) (by unfold maxLen; omega) (by omega) (by simp; omega) ?_; intro v' w2 hown' hgrow _; obtain ⟨g', cap', hv'⟩ := row_succ hown'; subst hv'; obtain ⟨hv3, hv4, hr4, hk4, hb4⟩ := appended (hv2 _) (by omega) (by rw [size_set]; exact hle) (hrow2 _) hown' hgrow; have hc3 := hv3.cell; have hf3 := hv3.frozen)
      refine ⟨((KeepsOthers.setCell W ⟨w.heap.size + 1, 0, none⟩ _).trans hk4).from _, (hK5 _ _ hb4).keepX hle (fun k o s => s), ⟨_, hv4, ?_, trivial⟩, ?_, hB.trans ((hK5 _ _ hb4).below hB.size (fun k o _ s => by omega)), by have := (hK5 _ _ hb4).size; omega⟩
      · rw [List.map_append, List.map_append, List.length_append]
        exact hr4
      · rw [HS.out]
        exact (hb4.block _ _ (hk.set _) (by omega))
    | false =>
      gi_wp2_with (gi_at_builtin; refine wpListIn_append_own _ rfl _ _ 22 rfl w1.heap.size 3 i0 (.int .i64 0) 1 8 Try.underlying22 hi hz0 hz1 hz2 rfl (by decide) _ _ _ rfl ((hrow2 _).alloc _) ⟨W.heap.size, 0, none⟩ 1 1 [.int .i64 x.2] rfl rfl (one_cell (size_set _ _ _)) (by intro u hu; simp at hu; subst hu; rfl) (by unfold maxLen; omega) (by omega) (by simp; omega) ?_; intro v' w2 hown' hgrow _; obtain ⟨g', cap', hv'⟩ := row_succ hown'; subst hv'; obtain ⟨hv3, hv4, hr4, hk4, hb4⟩ := appended (hv2 _) (by omega) (by rw [size_set]; exact hle) (hrow2 _) hown' hgrow; have hc3 := hv3.cell; have hf3 := hv3.frozen)
      refine ⟨((KeepsOthers.setCell W ⟨w.heap.size + 1, 0, none⟩ _).trans hk4).from _, (hK5 _ _ hb4).keepX hle (fun k o s => s), ⟨_, hv4, ?_, trivial⟩, ?_, hB.trans ((hK5 _ _ hb4).below hB.size (fun k o _ s => by omega)), by have := (hK5 _ _ hb4).size; omega⟩
      · rw [List.map_append, List.map_append, List.length_append]
        exact hr4
      · rw [HS.out]
        exact (hb4.block _ _ (hk.set _) (by omega))
  case done =>
    rintro D ys W hD rfl ⟨⟨v, hv, hrow, _⟩, hk, hB, hle⟩ hK
    have hc := hv.cell
    have hkc := hk.cell
    gi_wp2
    gi_region
    all_goals gi_wp2
    all_goals
      have hK' : W.drew.heap[D]? = some (.deferred (some [])) := hK
      refine ⟨by simp, .inl ⟨_, _, rfl, run_takeDeferred hK', ?_⟩⟩
      refine ⟨_, results_tmp2 rfl _ _ _, v, ?_, ?_, (hB.drew).trans (belowK_b (w := w) (Nat.le_refl _) W.drew D _ _ (by omega) hK' rfl rfl)⟩
      · rw [rightB_told]
        rfl
      · have hr := ownsRow_putObj (row_kept hrow (Kept.drew (fun _ _ => False) W) (fun _ _ _ _ s => s)) (.deferred none) hK' rfl
        rw [toldFrom_length, toldFrom_snd] at hr
        exact row_base hr hsz
  case stop =>
    rintro D c pre W _ _ h _
    exact h.elim
end Go.Proofs.Ytfgejepjiifmlaa
