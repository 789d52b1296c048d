/-
  The trail in memory; the contract of of.
  The trail in memory: the contract of add.
  The contract of the trail's add.
-/
import Derived.Test.YtpmofaajkhllpaaAr11
import Derived.Test.YtpmofaajkhllpaaTr11
import Derived.Test.YtpmofaajkhllpaaAm
import Derived.Deep.RegionLaw
namespace Go.Proofs.Ytpmofaajkhllpaa
set_option maxRecDepth 20000
section
set_option linter.unusedVariables false
open Go.ChangeShapes Go.WideShapes Go.ChangeAt Go.RowKit

/-- The list of each slice of the trail, k instructions added. -/
def trL (X : List Ins) (k i : Nat) : List Int := if i < 32 then trW X k (i : Int) else if i < 64 then trR X k ((i - 32 : Nat) : Int) else trA X k
structure TrM (n₁ : Nat) (W : World) (tb : Nat) (tv : Nat → Value) (X : List Ins) (k : Nat) : Prop where
  box : W.heap[tb]? = some (.cells ((Array.range 65).map tv) 53)
  rows : ∀ i, i < 65 → OwnI n₁ W (tv i) (trL X k i)
  dis : ∀ i j, i < 65 → j < 65 → i ≠ j → ∀ g, (tv i).ownBlock = some g → (tv j).ownBlock ≠ some g
  low : n₁ ≤ tb
theorem ownI_low {n m : Nat} {W : World} {v : Value} {L : List Int} (h : OwnI n W v L) (hm : m ≤ n) : OwnI m W v L := by
  refine ⟨h.1, ?_⟩
  rcases h.2 with q | ⟨g, cap, cur, q1, q2, q3⟩
  · exact .inl q
  · exact .inr ⟨g, cap, cur, q1, Nat.le_trans hm q2, q3⟩
theorem TrM.kept {S : Nat → Obj → Prop} {n₁ : Nat} {W W' : World} {tb : Nat} {tv : Nat → Value} {X : List Ins} {k : Nat} (h : TrM n₁ W tb tv X k) (hk : Kept S W W') (h1 : ∀ c, ¬ S tb (.cells c 53)) (h2 : ∀ g c, n₁ ≤ g → ¬ S g (.cells c 3)) : TrM n₁ W' tb tv X k :=
  ⟨hk.block tb _ h.box (h1 _), fun i hi => by
    obtain ⟨q0, q⟩ := h.rows i hi
    refine ⟨q0, ?_⟩
    rcases q with q | ⟨g, cap, cur, q1, q2, q3, q4⟩
    · exact .inl q
    · exact .inr ⟨g, cap, cur, q1, q2, hk.block g _ q3 (h2 _ _ q2), q4⟩, h.dis, h.low⟩
theorem TrM.bel {n₁ : Nat} {W W' : World} {tb : Nat} {tv : Nat → Value} {X : List Ins} {k : Nat} (h : TrM n₁ W tb tv X k) (hb : Bel W W') : TrM n₁ W' tb tv X k :=
  h.kept (S := fun _ _ => False) (Kept.of_bel hb) (fun _ s => s) (fun _ _ _ s => s)
theorem TrM.cell {n₁ : Nat} {W : World} {tb : Nat} {tv : Nat → Value} {X : List Ins} {k : Nat} (h : TrM n₁ W tb tv X k) (i : Nat) (hi : i < 65) : W.cell? ⟨tb, i, none⟩ = some (tv i) := by
  refine (cell_of h.box i).trans ?_
  simp [hi]
theorem bel_grown {a w w' : World} {v : Value} {base : Nat} {L : List Int} (h : Bel a w) (ho : OwnI base w v L) (hb : a.heap.size ≤ base) (hg : w.grownBy w' v.ownBlock) : Bel a w' :=
  h.grown hg fun k e => by
    have := (ownI_block ho k e).1
    omega
theorem TrM.w {n₁ : Nat} {W : World} {tb : Nat} {tv : Nat → Value} {X : List Ins} {k : Nat} (h : TrM n₁ W tb tv X k) (m : Nat) (hm : m < 32) : W.cell? ⟨tb, m, none⟩ = some (tv m) ∧ OwnI n₁ W (tv m) (trW X k m) := by
  have := h.rows m (by omega)
  unfold trL at this
  rw [if_pos hm] at this
  exact ⟨h.cell m (by omega), this⟩
theorem TrM.r {n₁ : Nat} {W : World} {tb : Nat} {tv : Nat → Value} {X : List Ins} {k : Nat} (h : TrM n₁ W tb tv X k) (m : Nat) (hm : m < 32) : W.cell? ⟨tb, 32 + m, none⟩ = some (tv (32 + m)) ∧ OwnI n₁ W (tv (32 + m)) (trR X k m) := by
  have := h.rows (32 + m) (by omega)
  unfold trL at this
  rw [if_neg (by omega), if_pos (by omega), show 32 + m - 32 = m by omega] at this
  exact ⟨h.cell (32 + m) (by omega), this⟩
theorem TrM.a {n₁ : Nat} {W : World} {tb : Nat} {tv : Nat → Value} {X : List Ins} {k : Nat} (h : TrM n₁ W tb tv X k) : W.cell? ⟨tb, 64, none⟩ = some (tv 64) ∧ OwnI n₁ W (tv 64) (trA X k) := by
  have := h.rows 64 (by omega)
  exact ⟨h.cell 64 (by omega), this⟩
theorem flat_snoc (f : Int → List Int) (l : List Int) (k : Nat) (hk : k < l.length) : (l.take (k + 1)).flatMap f = (l.take k).flatMap f ++ f (l.getD k 0) := by
  rw [List.take_succ_eq_append_getElem hk, List.flatMap_append]
  simp [List.getD, hk]

set_option maxHeartbeats 4000000 in
theorem tof_any (n₁ tb : Nat) (tv : Nat → Value) (X : List Ins) (n : Nat) (hX : n ≤ 10000) (W : World) (h : TrM n₁ W tb tv X n) :
    Calls Try.prog 35 #[.pointer (some ⟨tb, 0, none⟩), (xAt X n).val] W fun e W' => ∃ v, e = .returned v ∧ OwnI W.heap.size W' v (ofL X n) ∧ Bel W W' := by
  have hoff : ofL X n = (xAt X n).rdl.flatMap (trW X n) ++ trW X n (xAt X n).wr ++ trR X n (xAt X n).wr ++ (if (xAt X n).act = true then trA X n else []) := rfl
  have hw0 := trW_len X
  have hwl : ∀ r, (trW X n r).length ≤ 1 := fun r => trW_len X r n
  have hrl : ∀ r, (trR X n r).length ≤ n := fun r => trR_len X r n
  have hal := trA_len X n
  have hlt := lt_of_heap h.box
  generalize xAt X n = x at *
  have hlen := rdl_len x
  have hfl : ∀ k, ((x.rdl.take k).flatMap (trW X n)).length ≤ 2 := fun k => by
    have := flatMap_len (trW X n) hwl (x.rdl.take k)
    rw [List.length_take] at this
    omega
  have HB := hidm (rdl_bd x)
  have HO := hidm hoff
  have HM := hidm h
  have hrow0 : ∀ (w' : World), Calls Try.prog 49 #[x.val] w' fun e w2 => ∃ v, e = .returned v ∧ w2.ownsRow w'.heap.size 3 1 v x.rdl.length (x.rdl.map (Value.int .i64)) ∧ Bel w' w2 := fun w' => reads_any x.o x.a x.b x.c x.i w'
  unfold Ins.val at hrow0 ⊢
  clear hoff h hw0
  go_enter Try.func35, Try.ntmps35
  go_wp2_with (go_at_call 49; refine (hrow0 _).mono ?_; rintro e w1 ⟨v, rfl, hrow, g1⟩; obtain ⟨ao, cap, rfl, hv⟩ := ints_view hrow; have K1 := btrans ((Bel.refl W).alloc _) g1; have hx1 := bel_heap g1 (heap_new W _); have hz := g1.size; rw [World.size_alloc] at hz hv; clear hrow g1 hrow0)
  go_loopw [12, 5] (fun i a wr => ∃ (k : Nat), k ≤ x.rdl.length ∧ i = .int .i64 k ∧ OwnI w1.heap.size wr a ((x.rdl.take k).flatMap (trW X n)) ∧ Bel w1 wr) (fun i _ _ => x.rdl.length - (intOf i).toNat)
  case atStart => exact ⟨0, Nat.zero_le _, rfl, ownI_nil _ _, Bel.refl _⟩
  case round =>
    obtain ⟨k, hk, rfl, hO, hB⟩ := hrel
    rename World => wr
    have hsz := hB.size
    have hM := HM.out.bel (btrans K1 hB)
    by_cases hlt2 : k < x.rdl.length
    · obtain ⟨g, rfl, hg0, hg1, hg2, hg3, hcell⟩ := hv (by omega)
      obtain ⟨m, hm, hm32⟩ := HB.out k hlt2
      have hc := hcell k hlt2
      rw [hm] at hc
      have hcr : wr.cell? ⟨g, k, none⟩ = some (.int .i64 m) := ((bcell hB).1 g k (by omega)).trans hc
      obtain ⟨t1, t2⟩ := hM.w m hm32
      have HF := hidm (flat_snoc (trW X n) x.rdl k hlt2)
      rw [hm] at HF
      have hfk := hfl k
      have hwm := hwl m
      have hml : (m : Int) < 32 := by omega
      clear hcell hc HB hv hM
      go_wp2_with (at_builtin; refine wpList_append_row wr rfl (.tmp 16) (.tmp 22) rfl w1.heap.size n₁ _ (tv m) _ (trW X n m) rfl rfl hO t2 (by omega) (by omega) ?_; intro v2 w2 ho2 hg2' hl2)
      go_roundw
      case rel => exact ⟨k + 1, by omega, by go_num, by rw [HF.out]; exact ho2, bel_grown hB hO (Nat.le_refl _) hg2'⟩
      case measure => simp [intOf]; omega
    · obtain rfl : k = x.rdl.length := by omega
      rw [List.take_length] at hO
      have hfl2 := hfl x.rdl.length
      rw [List.take_length] at hfl2
      have hxr := bel_heap hB hx1
      obtain ⟨p0, p1, p2, p3, p4⟩ := box_cells hxr
      have hlr := lt_of_heap hxr
      have tail : ∀ (ww : World), Calls Try.prog 50 #[x.val] ww fun e w2 => e = .returned (.int .i64 x.wr) ∧ Bel ww w2 := fun ww => writes_any x.o x.a x.b x.c x.i ww
      have tact : ∀ (ww : World), Calls Try.prog 51 #[x.val] ww fun e w2 => e = .returned (.bool x.act) ∧ Bel ww w2 := fun ww => acts_any x.o x.a x.b x.c x.i ww
      unfold Ins.val at tail tact
      have hbd := ins_bd x
      have HW := hidm (show ∃ m : Nat, x.wr = m ∧ m < 32 from ⟨x.wr.toNat, by omega, by omega⟩)
      obtain ⟨m, hm, hm32⟩ := HW.out
      rw [hm] at tail HO
      have hml : (m : Int) < 32 := by omega
      have hwm := hwl m
      have hrm := hrl m
      have HX1 := hidm hx1
      clear hm HW HB hv hbd hx1 hxr
      rename Value => va
      cases ha : x.act with
      | false =>
        rw [ha] at tact HO
        clear ha
        go_wp2_with (first
          | (have q := b4; go_at_call 51; refine (tact _).mono ?_; rintro e w5 ⟨rfl, b5⟩)
          | (have q := b3; at_builtin; refine wpList_append_row w3 rfl (.tmp 35) (.tmp 41) rfl w1.heap.size n₁ _ (tv (32 + m)) _ (trR X n m) rfl rfl o3 ((HM.out.bel (btrans K1 b3)).r m hm32).2 (by simp only [List.length_append]; omega) (by have := b3.size; omega) ?_; intro v4 w4 o4 g4 l4; have b4 := bel_grown b3 o3 (Nat.le_refl _) g4; obtain ⟨s0, s1, s2, s3, s4⟩ := box_cells (bel_heap b4 HX1.out))
          | (have q := b2; at_builtin; refine wpList_append_row w2 rfl (.tmp 27) (.tmp 33) rfl w1.heap.size n₁ _ (tv m) _ (trW X n m) rfl rfl o2 ((HM.out.bel (btrans K1 b2)).w m hm32).2 (by omega) (by have := b2.size; omega) ?_; intro v3 w3 o3 g3 l3; have b3 := bel_grown b2 o2 (Nat.le_refl _) g3; have t3 := ((HM.out.bel (btrans K1 b3)).r m hm32).1)
          | (go_at_call 50; refine (tail _).mono ?_; rintro e w2 ⟨rfl, b2'⟩; have b2 := btrans hB b2'; have o2 := ownI_kept hO (Kept.of_bel (S := fun _ _ => False) b2') (fun _ _ _ _ s => s); have t2 := ((HM.out.bel (btrans K1 b2)).w m hm32).1))
        go_ret
        refine ⟨v4, rfl, ?_, btrans (btrans K1 b4) b5⟩
        rw [HO.out]
        refine ownI_low (n := w1.heap.size) ?_ (by omega)
        rw [show (if false = true then trA X n else []) = [] from rfl, List.append_nil]
        exact ownI_kept o4 (Kept.of_bel (S := fun _ _ => False) b5) (fun _ _ _ _ s => s)
      | true =>
        rw [ha] at tact HO
        clear ha
        go_wp2_with (first
          | (have q := b5; at_builtin; refine wpList_append_row w5 rfl (.tmp 45) (.tmp 49) rfl w1.heap.size n₁ _ (tv 64) _ (trA X n) rfl rfl o5 ((HM.out.bel (btrans K1 b5)).a).2 (by simp only [List.length_append]; omega) (by have := b5.size; omega) ?_; intro v6 w6 o6 g6 l6; have b6 := bel_grown b5 o5 (Nat.le_refl _) g6)
          | (have q := b4; go_at_call 51; refine (tact _).mono ?_; rintro e w5 ⟨rfl, b5'⟩; have b5 := btrans b4 b5'; have o5 := ownI_kept o4 (Kept.of_bel (S := fun _ _ => False) b5') (fun _ _ _ _ s => s); have t5 := ((HM.out.bel (btrans K1 b5)).a).1)
          | (have q := b3; at_builtin; refine wpList_append_row w3 rfl (.tmp 35) (.tmp 41) rfl w1.heap.size n₁ _ (tv (32 + m)) _ (trR X n m) rfl rfl o3 ((HM.out.bel (btrans K1 b3)).r m hm32).2 (by simp only [List.length_append]; omega) (by have := b3.size; omega) ?_; intro v4 w4 o4 g4 l4; have b4 := bel_grown b3 o3 (Nat.le_refl _) g4; obtain ⟨s0, s1, s2, s3, s4⟩ := box_cells (bel_heap b4 HX1.out))
          | (have q := b2; at_builtin; refine wpList_append_row w2 rfl (.tmp 27) (.tmp 33) rfl w1.heap.size n₁ _ (tv m) _ (trW X n m) rfl rfl o2 ((HM.out.bel (btrans K1 b2)).w m hm32).2 (by omega) (by have := b2.size; omega) ?_; intro v3 w3 o3 g3 l3; have b3 := bel_grown b2 o2 (Nat.le_refl _) g3; have t3 := ((HM.out.bel (btrans K1 b3)).r m hm32).1)
          | (go_at_call 50; refine (tail _).mono ?_; rintro e w2 ⟨rfl, b2'⟩; have b2 := btrans hB b2'; have o2 := ownI_kept hO (Kept.of_bel (S := fun _ _ => False) b2') (fun _ _ _ _ s => s); have t2 := ((HM.out.bel (btrans K1 b2)).w m hm32).1))
        go_ret
        refine ⟨v6, rfl, ?_, btrans K1 b6⟩
        rw [HO.out]
        exact ownI_low o6 (by omega)
end
section
set_option linter.unusedVariables false
open Go.ChangeShapes Go.WideShapes Go.ChangeAt Go.RowKit

/-- The trail's rows, whatever they hold. -/
structure TrF (n₁ : Nat) (W : World) (tb : Nat) (tv : Nat → Value) (L : Nat → List Int) : Prop where
  box : W.heap[tb]? = some (.cells ((Array.range 65).map tv) 53)
  rows : ∀ i, i < 65 → OwnI n₁ W (tv i) (L i)
  dis : ∀ i j, i < 65 → j < 65 → i ≠ j → ∀ g, (tv i).ownBlock = some g → (tv j).ownBlock ≠ some g
  low : n₁ ≤ tb
theorem TrM.f {n₁ : Nat} {W : World} {tb : Nat} {tv : Nat → Value} {X : List Ins} {k : Nat} (h : TrM n₁ W tb tv X k) : TrF n₁ W tb tv (trL X k) := ⟨h.box, h.rows, h.dis, h.low⟩
theorem TrF.m {n₁ : Nat} {W : World} {tb : Nat} {tv : Nat → Value} {X : List Ins} {k : Nat} {L : Nat → List Int} (h : TrF n₁ W tb tv L) (e : ∀ i, i < 65 → L i = trL X k i) : TrM n₁ W tb tv X k := ⟨h.box, fun i hi => by rw [← e i hi]; exact h.rows i hi, h.dis, h.low⟩
theorem TrF.bel {n₁ : Nat} {W W' : World} {tb : Nat} {tv : Nat → Value} {L : Nat → List Int} (h : TrF n₁ W tb tv L) (hb : Bel W W') : TrF n₁ W' tb tv L :=
  ⟨bel_heap hb h.box, fun i hi => ownI_kept (h.rows i hi) (Kept.of_bel (S := fun _ _ => False) hb) (fun _ _ _ _ s => s), h.dis, h.low⟩
theorem TrF.cell {n₁ : Nat} {W : World} {tb : Nat} {tv : Nat → Value} {L : Nat → List Int} (h : TrF n₁ W tb tv L) (i : Nat) (hi : i < 65) : W.cell? ⟨tb, i, none⟩ = some (tv i) := by
  refine (cell_of h.box i).trans ?_
  simp [hi]
/-- What add may turn. -/
def TS (n₁ tb k : Nat) (o : Obj) : Prop := k = tb ∨ (n₁ ≤ k ∧ tag o = some 3)
def updV {α : Type} (f : Nat → α) (j : Nat) (x : α) : Nat → α := fun i => if i = j then x else f i
theorem cell65 {W : World} {tb : Nat} {tv : Nat → Value} (h : W.heap[tb]? = some (.cells ((Array.range 65).map tv) 53)) (i : Nat) (hi : i < 65) : W.cell? ⟨tb, i, none⟩ = some (tv i) := by
  refine (cell_of h i).trans ?_
  simp [hi]
theorem TrF.ne {n₁ : Nat} {W : World} {tb : Nat} {tv : Nat → Value} {L : Nat → List Int} (h : TrF n₁ W tb tv L) (i : Nat) (hi : i < 65) : (tv i).ownBlock ≠ some tb := by
  intro e
  obtain ⟨_, cur, hc⟩ := ownI_block (h.rows i hi) tb e
  rw [h.box] at hc
  injection hc with hc
  injection hc with _ hc _
  exact absurd hc (by decide)
/-- A slice of the trail, written anew: W1 is W but for that row, and what is new. -/
theorem TrF.put {n₁ : Nat} {W W1 : World} {tb : Nat} {tv : Nat → Value} {L : Nat → List Int} (h : TrF n₁ W tb tv L) (i : Nat) (hi : i < 65) (v : Value) (M : List Int) (hk : Kept (fun k _ => (tv i).ownBlock = some k) W W1) (ho : OwnI n₁ W1 v M) (hl : ∀ g, v.ownBlock = some g → (tv i).ownBlock = some g ∨ W.heap.size ≤ g) :
    TrF n₁ (W1.setCell ⟨tb, i, none⟩ v) tb (updV tv i v) (updV L i M) ∧ Kept (fun k _ => k = tb ∨ (tv i).ownBlock = some k) W (W1.setCell ⟨tb, i, none⟩ v) := by
  have hb1 := hk.block tb _ h.box (h.ne i hi)
  have hlt := lt_of_heap h.box
  have hvne : v.ownBlock ≠ some tb := fun e => by
    rcases hl tb e with q | q
    · exact h.ne i hi q
    · omega
  have kset : Kept (fun k _ => k = tb) W1 (W1.setCell ⟨tb, i, none⟩ v) := Kept.setCell _ _ _ _ (fun _ _ => rfl)
  refine ⟨⟨?_, fun j hj => ?_, fun a b ha hb hab g => ?_, h.low⟩, ?_⟩
  · refine (heap_set_same hb1).trans ?_
    congr 2
    apply Array.ext_getElem?
    intro k
    rw [Array.getElem?_setIfInBounds]
    by_cases e : i = k
    · subst e
      simp [hi, updV]
    · rw [if_neg e]
      by_cases hk : k < 65
      · simp [hk, updV, show ¬ k = i from fun q => e q.symm]
      · simp [hk]
  · unfold updV
    by_cases e : j = i
    · simp only [e, if_true]
      exact ownI_kept ho kset (fun g c f q s => hvne (by rw [q, s]))
    · simp only [e, if_false]
      refine ownI_kept (ownI_kept (h.rows j hj) hk (fun g c f q s => h.dis j i hj hi e g q s)) kset (fun g c f q s => h.ne j hj (by rw [q, s]))
  · unfold updV
    have old : ∀ j, j < 65 → ∀ g, (tv j).ownBlock = some g → g < W.heap.size := fun j hj g q => by
      obtain ⟨_, cur, hc⟩ := ownI_block (h.rows j hj) g q
      exact lt_of_heap hc
    by_cases e1 : a = i
    · by_cases e2 : b = i
      · omega
      · simp only [e1, e2, if_true, if_false]
        intro q q2
        rcases hl g q with q3 | q3
        · exact h.dis i b hi hb (fun x => e2 x.symm) g q3 q2
        · have := old b hb g q2
          omega
    · by_cases e2 : b = i
      · simp only [e1, e2, if_true, if_false]
        intro q q2
        rcases hl g q2 with q3 | q3
        · exact h.dis a i ha hi e1 g q q3
        · have := old a ha g q
          omega
      · simp only [e1, e2, if_false]
        exact h.dis a b ha hb hab g
  · exact (hk.mono fun k o _ e => .inr e).trans (kset.mono fun _ _ _ e => .inl e)
/-- A slice cut to nothing. -/
def cut0 : Value → Value
  | .slice ao _ cap => .slice ao 0 cap
  | v => v
theorem cut0_own {n₁ : Nat} {W : World} {v : Value} {L : List Int} (h : OwnI n₁ W v L) : OwnI n₁ W (cut0 v) [] ∧ (cut0 v).ownBlock = v.ownBlock := by
  rcases h.2 with ⟨rfl, _⟩ | ⟨g, cap, cur, rfl, h1, h2, h3, h4, h5, h6⟩
  · exact ⟨ownI_nil _ _, rfl⟩
  · exact ⟨⟨by simp, .inr ⟨g, cap, cur, rfl, h1, h2, Nat.zero_le _, h4, h5, by simp⟩⟩, rfl⟩

theorem TrF.cong {n₁ : Nat} {W : World} {tb : Nat} {tv : Nat → Value} {L M : Nat → List Int} (h : TrF n₁ W tb tv L) (e : ∀ i, i < 65 → L i = M i) : TrF n₁ W tb tv M := ⟨h.box, fun i hi => by rw [← e i hi]; exact h.rows i hi, h.dis, h.low⟩
/-- One number appended to a row (or to a row cut to nothing), and stored. -/
theorem TrF.pushed {n₁ : Nat} {W w1 : World} {tb : Nat} {tv : Nat → Value} {L : Nat → List Int} (h : TrF n₁ W tb tv L) (i : Nat) (hi : i < 65) (u : Value) (hu : u.ownBlock = (tv i).ownBlock) (M : List Int) (x : Int) (W2 : World) (h2 : ∀ S, Kept S W W2) (g cap H : Nat)
    (hown : w1.ownsRow n₁ 3 1 (.slice (some ⟨g, 0, none⟩) (M.length + 1) cap) (M.length + 1) (M.map (Value.int .i64) ++ [.int .i64 x])) (hgrow : W2.grownBy w1 u.ownBlock) (hat : u.ownBlock = some g ∨ g = H) (hH : W.heap.size ≤ H) :
    TrF n₁ (w1.setCell ⟨tb, i, none⟩ (.slice (some ⟨g, 0, none⟩) (M.length + 1) cap)) tb (updV tv i (.slice (some ⟨g, 0, none⟩) (M.length + 1) cap)) (updV L i (M ++ [x])) ∧ Kept (fun k _ => k = tb ∨ (tv i).ownBlock = some k) W (w1.setCell ⟨tb, i, none⟩ (.slice (some ⟨g, 0, none⟩) (M.length + 1) cap)) ∧
      ∀ k, Value.ownBlock (.slice (some ⟨g, 0, none⟩) (M.length + 1) cap) = some k → (tv i).ownBlock = some k ∨ W.heap.size ≤ k := by
  have hl : ∀ k, Value.ownBlock (.slice (some ⟨g, 0, none⟩) (M.length + 1) cap) = some k → (tv i).ownBlock = some k ∨ W.heap.size ≤ k := fun k e => by
    obtain rfl : g = k := by simpa [Value.ownBlock] using e
    rcases hat with q | q
    · exact .inl (by rw [← hu, q])
    · exact .inr (by omega)
  have kk : Kept (fun k _ => (tv i).ownBlock = some k) W w1 := (h2 _).trans (Kept.grown hgrow fun k o' e _ => by rw [← hu]; exact e)
  have ho : OwnI n₁ w1 (.slice (some ⟨g, 0, none⟩) (M.length + 1) cap) (M ++ [x]) := by
    unfold OwnI
    rw [List.length_append, List.map_append]
    exact hown
  obtain ⟨r1, r2⟩ := h.put i hi _ (M ++ [x]) kk ho hl
  exact ⟨r1, r2, hl⟩
theorem ownI_cases {n₁ : Nat} {W : World} {v : Value} {L : List Int} (h : OwnI n₁ W v L) : ∃ v0, OwnI n₁ W v0 [] ∧ v0.ownBlock = v.ownBlock ∧ ((v = .slice none 0 0 ∧ v0 = .slice none 0 0) ∨ ∃ g cap, v = .slice (some ⟨g, 0, none⟩) L.length cap ∧ v0 = .slice (some ⟨g, 0, none⟩) 0 cap) := by
  refine ⟨cut0 v, (cut0_own h).1, (cut0_own h).2, ?_⟩
  rcases h.2 with ⟨rfl, _⟩ | ⟨g, cap, cur, rfl, _⟩
  · exact .inl ⟨rfl, rfl⟩
  · exact .inr ⟨g, cap, rfl, rfl⟩
theorem rdl_nodup (x : Ins) : x.rdl.Nodup := by
  rcases rdl_forms x with ⟨h, _⟩ | ⟨p, h, _⟩ | ⟨p, q, h, _, h2, _⟩ <;> rw [h] <;> simp
  omega
/-- What the rows hold, so many registers that one reads looked at. -/
def LKf (X : List Ins) (n k i : Nat) : List Int := if 32 ≤ i ∧ i < 64 ∧ ((i - 32 : Nat) : Int) ∈ (xAt X n).rdl.take k then trL X n i ++ [(n : Int)] else trL X n i
theorem LK_zero (X : List Ins) (n i : Nat) : LKf X n 0 i = trL X n i := by simp [LKf]
theorem LK_step (X : List Ins) (n k m : Nat) (hk : k < (xAt X n).rdl.length) (hm : (xAt X n).rdl.getD k 0 = m) (hm32 : m < 32) (i : Nat) : updV (LKf X n k) (32 + m) (LKf X n k (32 + m) ++ [(n : Int)]) i = LKf X n (k + 1) i := by
  have e : (xAt X n).rdl.take (k + 1) = (xAt X n).rdl.take k ++ [(m : Int)] := by rw [List.take_succ_eq_append_getElem hk, ← hm]; simp [List.getD, hk]
  have hn : (m : Int) ∉ (xAt X n).rdl.take k := fun q => by
    have h1 := rdl_nodup (xAt X n)
    have h2 : ((xAt X n).rdl.take (k + 1)).Nodup := h1.sublist (List.take_sublist _ _)
    rw [e, List.nodup_append] at h2
    exact h2.2.2 _ q _ (List.mem_singleton.2 rfl) rfl
  unfold updV LKf
  rw [e]
  by_cases q : i = 32 + m
  · subst q
    have h1 : ((32 + m - 32 : Nat) : Int) = m := by omega
    rw [if_pos rfl, if_neg (fun s => hn (by rw [← h1]; exact s.2.2)), if_pos ⟨by omega, by omega, by rw [h1]; simp⟩]
  · rw [if_neg q]
    by_cases s : 32 ≤ i ∧ i < 64 ∧ ((i - 32 : Nat) : Int) ∈ (xAt X n).rdl.take k
    · rw [if_pos s, if_pos ⟨s.1, s.2.1, List.mem_append.2 (.inl s.2.2)⟩]
    · rw [if_neg s, if_neg]
      rintro ⟨h1, h2, h3⟩
      rcases List.mem_append.1 h3 with h3 | h3
      · exact s ⟨h1, h2, h3⟩
      · rw [List.mem_singleton] at h3
        omega
theorem LK_end (X : List Ins) (n i : Nat) : LKf X n (xAt X n).rdl.length i = if 32 ≤ i ∧ i < 64 ∧ (xAt X n).rds ((i - 32 : Nat) : Int) = true then trL X n i ++ [(n : Int)] else trL X n i := by
  unfold LKf
  rw [List.take_length]
  simp only [rdl_mem]
theorem trW_succ (X : List Ins) (n : Nat) (r : Int) : trW X (n + 1) r = if (xAt X n).wr ≠ 0 ∧ r = (xAt X n).wr then [(n : Int)] else trW X n r := rfl
theorem trR_succ (X : List Ins) (n : Nat) (r : Int) : trR X (n + 1) r = if (xAt X n).wr ≠ 0 ∧ r = (xAt X n).wr then [] else if (xAt X n).rds r = true then trR X n r ++ [(n : Int)] else trR X n r := rfl
theorem trA_succ (X : List Ins) (n : Nat) : trA X (n + 1) = if (xAt X n).act = true then [(n : Int)] else trA X n := rfl
/-- The whole step. -/
theorem LK_full (X : List Ins) (n : Nat) (f : Nat → List Int) (hf : ∀ i, f i = if (xAt X n).wr ≠ 0 ∧ (i : Int) = (xAt X n).wr then [(n : Int)] else if (xAt X n).wr ≠ 0 ∧ 32 ≤ i ∧ i < 64 ∧ (i : Int) = 32 + (xAt X n).wr then [] else if i = 64 ∧ (xAt X n).act = true then [(n : Int)] else LKf X n (xAt X n).rdl.length i) : ∀ i, i < 65 → f i = trL X (n + 1) i := by
  intro i hi
  have hbd := ins_bd (xAt X n)
  rw [hf, LK_end]
  unfold trL
  by_cases c1 : i < 32
  · rw [if_pos c1, if_pos c1]
    rw [trW_succ]
    by_cases q : (xAt X n).wr ≠ 0 ∧ (i : Int) = (xAt X n).wr
    · rw [if_pos q, if_pos q]
    · rw [if_neg q, if_neg (by omega), if_neg (by omega), if_neg (by omega), if_neg q]
  · rw [if_neg c1, if_neg c1, if_neg (by omega)]
    by_cases c2 : i < 64
    · rw [if_pos c2, if_pos c2]
      rw [trR_succ]
      have e : ((i - 32 : Nat) : Int) = i - 32 := by omega
      by_cases q : (xAt X n).wr ≠ 0 ∧ (i : Int) = 32 + (xAt X n).wr
      · rw [if_pos ⟨q.1, by omega, c2, q.2⟩, if_pos ⟨q.1, by omega⟩]
      · have q2 : ¬ ((xAt X n).wr ≠ 0 ∧ ((i - 32 : Nat) : Int) = (xAt X n).wr) := fun s => q ⟨s.1, by omega⟩
        by_cases s : (xAt X n).rds ((i - 32 : Nat) : Int) = true
        · rw [if_neg (fun s => q ⟨s.1, s.2.2.2⟩), if_neg (by omega), if_pos ⟨by omega, c2, s⟩, if_neg q2, if_pos s]
        · rw [if_neg (fun s => q ⟨s.1, s.2.2.2⟩), if_neg (by omega), if_neg (fun t => s t.2.2), if_neg q2, if_neg s]
    · rw [if_neg c2, if_neg c2, if_neg (by omega)]
      rw [trA_succ]
      by_cases q : (xAt X n).act = true
      · rw [if_pos ⟨by omega, q⟩, if_pos q]
      · rw [if_neg (fun s => q s.2), if_neg q, if_neg (fun s => c2 s.2.1)]

/-- Blocks that the trail owned, or that are newer than some size. -/
def T1 (N tb : Nat) (tv : Nat → Value) (k : Nat) (_ : Obj) : Prop := k = tb ∨ (∃ i, i < 65 ∧ (tv i).ownBlock = some k) ∨ N ≤ k
def Lies (N : Nat) (tv tv2 : Nat → Value) : Prop := ∀ i, i < 65 → ∀ g, (tv2 i).ownBlock = some g → (∃ j, j < 65 ∧ (tv j).ownBlock = some g) ∨ N ≤ g
theorem Lies.put {N : Nat} {tv tv2 : Nat → Value} (h : Lies N tv tv2) (i : Nat) (hi : i < 65) {v : Value} (hv : ∀ g, v.ownBlock = some g → (tv2 i).ownBlock = some g ∨ N ≤ g) : Lies N tv (updV tv2 i v) := fun j hj g q => by
  unfold updV at q
  by_cases e : j = i
  · rw [if_pos e] at q
    rcases hv g q with s | s
    · exact h i hi g s
    · exact .inr s
  · rw [if_neg e] at q
    exact h j hj g q
theorem T1.of {N tb : Nat} {tv tv2 : Nat → Value} (h : Lies N tv tv2) (i : Nat) (hi : i < 65) {W W' : World} (hk : Kept (fun k _ => k = tb ∨ (tv2 i).ownBlock = some k) W W') : Kept (T1 N tb tv) W W' :=
  hk.mono fun k o _ e => by
    rcases e with e | e
    · exact .inl e
    · rcases h i hi k e with s | s
      · exact .inr (.inl s)
      · exact .inr (.inr s)

theorem upd_full (m : Nat) (h0 : ¬ (m : Int) = 0) (h32 : m < 32) (n : Int) (L : Nat → List Int) (act : Bool) (i : Nat) : (if act = true then updV (updV (updV L m [n]) (32 + m) []) 64 [n] else updV (updV L m [n]) (32 + m) []) i = if (m : Int) ≠ 0 ∧ (i : Int) = m then [n] else if (m : Int) ≠ 0 ∧ 32 ≤ i ∧ i < 64 ∧ (i : Int) = 32 + m then [] else if i = 64 ∧ act = true then [n] else L i := by
  cases act
  · simp only [Bool.false_eq_true, and_false, if_false, updV]
    repeat' split
    all_goals first | rfl | (exfalso; omega)
  · simp only [and_true, if_true, updV]
    repeat' split
    all_goals first | rfl | (exfalso; omega)
end
section
set_option linter.unusedVariables false
open Go.ChangeShapes Go.WideShapes Go.ChangeAt Go.RowKit

set_option maxHeartbeats 4000000 in
theorem tadd_any (n₁ tb : Nat) (tv : Nat → Value) (X : List Ins) (n : Nat) (hX : n ≤ 10000) (W : World) (hn : n₁ ≤ W.heap.size) (h : TrM n₁ W tb tv X n) :
    Calls Try.prog 37 #[.pointer (some ⟨tb, 0, none⟩), .int .i64 n, (xAt X n).val] W fun e W' => e = .returned (.tuple #[]) ∧ ∃ tv', TrM n₁ W' tb tv' X (n + 1) ∧ Kept (TS n₁ tb) W W' := by
  obtain ⟨i0, hi, hz0, hz1, hz2⟩ := info_parts intInfo
  have hlt := lt_of_heap h.box
  have hrl : ∀ r, (trR X n r).length ≤ n := fun r => trR_len X r n
  obtain ⟨LK, hLK⟩ : ∃ LK : Nat → Nat → List Int, LK = LKf X n := ⟨_, rfl⟩
  have hL0 : ∀ i, LK 0 i = trL X n i := fun i => by rw [hLK]; exact LK_zero X n i
  have hLS : ∀ k (m : Nat), k < (xAt X n).rdl.length → (xAt X n).rdl.getD k 0 = m → m < 32 → (∀ i, updV (LK k) (32 + m) (LK k (32 + m) ++ [(n : Int)]) i = LK (k + 1) i) := fun k m h1 h2 h3 i => by rw [hLK]; exact LK_step X n k m h1 h2 h3 i
  have hLE := LK_full X n
  rw [← hLK] at hLE
  have HLE := hidm hLE
  have hLl : ∀ k i, i < 65 → (LK k i).length ≤ n + 2 := fun k i hi => by
    have h1 : (trL X n i).length ≤ n + 1 := by
      unfold trL
      split
      · have := trW_len X (i : Int) n; omega
      · split
        · have := trR_len X ((i - 32 : Nat) : Int) n; omega
        · have := trA_len X n; omega
    rw [hLK]
    unfold LKf
    split
    · simp; omega
    · omega
  clear hLE hLK
  generalize xAt X n = x at *
  have hlen := rdl_len x
  have HB := hidm (rdl_bd x)
  have HF := hidm h.f
  have HLS := hidm hLS
  have hrow0 : ∀ (w' : World), Calls Try.prog 49 #[x.val] w' fun e w2 => ∃ v, e = .returned v ∧ w2.ownsRow w'.heap.size 3 1 v x.rdl.length (x.rdl.map (Value.int .i64)) ∧ Bel w' w2 := fun w' => reads_any x.o x.a x.b x.c x.i w'
  unfold Ins.val at hrow0 ⊢
  clear h hLS
  go_enter Try.func37, Try.ntmps37
  go_wp2_with (go_at_call 49; refine (hrow0 _).mono ?_; rintro e w1 ⟨v, rfl, hrow, g1⟩; obtain ⟨ao, cap, rfl, hv⟩ := ints_view hrow; have K1 := btrans ((Bel.refl W).alloc _) g1; have hx1 := bel_heap g1 (heap_new W _); have hz := g1.size; rw [World.size_alloc] at hz hv; clear hrow g1 hrow0)
  go_loopw [12] (fun i wr => ∃ (k : Nat) (tv2 : Nat → Value), k ≤ x.rdl.length ∧ i = .int .i64 k ∧ TrF n₁ wr tb tv2 (LK k) ∧ Lies w1.heap.size tv tv2 ∧ Kept (T1 w1.heap.size tb tv) w1 wr) (fun i _ => x.rdl.length - (intOf i).toNat)
  case atStart => exact ⟨0, tv, Nat.zero_le _, rfl, by have := HF.out.bel K1; exact ⟨this.box, fun i hi => by rw [hL0]; exact this.rows i hi, this.dis, this.low⟩, fun i hi g q => .inl ⟨i, hi, q⟩, Kept.refl _ _⟩
  case round =>
    obtain ⟨k, tv2, hk, rfl, hF, hLi, hK⟩ := hrel
    rename World => wr
    by_cases hlt2 : k < x.rdl.length
    · obtain ⟨g, rfl, hg0, hg1, hg2, hg3, hcell⟩ := hv (by omega)
      obtain ⟨m, hm, hm32⟩ := HB.out k hlt2
      have hc := hcell k hlt2
      rw [hm] at hc
      have hgS : ∀ o, ¬ T1 w1.heap.size tb tv g o := by
        rintro o (s | ⟨i, hi, s⟩ | s)
        · omega
        · obtain ⟨_, cur, hcur⟩ := ownI_block (HF.out.rows i hi) g s
          have := lt_of_heap hcur
          omega
        · omega
      have hcr : wr.cell? ⟨g, k, none⟩ = some (.int .i64 m) := by
        have e := Array.getElem?_eq_getElem hg1
        exact (World.cell?_of_block ((hK.block g _ e (hgS _)).trans e.symm)).trans hc
      have HS := hidm (fun i => HLS.out k m hlt2 hm hm32 i)
      have hrow := hF.rows (32 + m) (by omega)
      have c1 := hF.cell (32 + m) (by omega)
      have f1 := frozen_of hF.box (32 + m)
      have hne := hF.ne (32 + m) (by omega)
      have hLm := hLl k (32 + m) (by omega)
      have hws := hK.size
      have hbw := lt_of_heap hF.box
      have HFF := hidm hF
      have HLi := hidm hLi
      have hml : (m : Int) < 32 := by omega
      have hm64 : 32 + m < 65 := by omega
      clear hc hcell hv HB hgS hm hF hLi hL0 HF HLS
      generalize hu : tv2 (32 + m) = u at *
      have HU := hidm hu
      clear hu
      have HR := hidm hrow
      clear hrow
      go_wp2_with fail
      go_region_law
        ((refine step_append_lies _ (by rfl) _ _ _ (by rfl) n₁ 3 i0 _ 1 8 Try.underlying25 hi hz0 hz1 hz2 rfl (by omega) _ _ _ (by rfl) ((HR.out.alloc _).drew)
            ⟨wr.heap.size, 0, none⟩ 1 1 [.int .i64 n] (by rfl) (by rfl) (World.news_of_block (cs := #[.int .i64 n]) (t := 3) (fr := (0, 0)) (heap_alloc_new wr _)) (by simp [Value.oneCell'])
            (by omega) (by unfold maxLen; omega) (by omega) (by simp; omega) (wr.heap.size + 1) (by simp) ?_; intro gg cap1 w3 hown1 hgrow hat hlt1; have hb1 := (hgrow.block tb (by simp; omega) hne.symm).trans (heap_old HFF.out.box); have f2 := frozen_of hb1 (32 + m); have c2 := cell65 hb1 (32 + m) hm64; have HB1 := hidm hb1; clear hb1))
      all_goals
        obtain ⟨r1, r2, r3⟩ := HFF.out.pushed (32 + m) hm64 u (by rw [HU.out]) (LK k (32 + m)) n _ (fun S => (Kept.alloc S _ _).trans (Kept.drew _ _)) gg cap1 _ hown1 hgrow hat (Nat.le_succ _)
        go_wp2
        go_roundw
        case rel => exact ⟨k + 1, _, by omega, by go_num, r1.cong (fun i _ => HS.out i), HLi.out.put (32 + m) hm64 (fun k' e => (r3 k' e).imp id (fun q => by omega)), hK.trans (T1.of HLi.out (32 + m) hm64 r2)⟩
        case measure => simp [intOf]; omega
    · obtain rfl : k = x.rdl.length := by omega
      have hbx : wr.heap[W.heap.size]? = some (Obj.cells #[.int .i64 x.o, .int .i64 x.a, .int .i64 x.b, .int .i64 x.c, .int .i64 x.i] 30) := hK.block _ _ hx1 (by
        rintro (s | ⟨i, hi, s⟩ | s)
        · omega
        · obtain ⟨_, cur, hcur⟩ := ownI_block (HF.out.rows i hi) _ s
          have := lt_of_heap hcur
          omega
        · omega)
      have hSX : ∀ o, ¬ T1 w1.heap.size tb tv W.heap.size o := by
        rintro o (s | ⟨i, hi, s⟩ | s)
        · omega
        · obtain ⟨_, cur, hcur⟩ := ownI_block (HF.out.rows i hi) _ s
          have := lt_of_heap hcur
          omega
        · omega
      have HSX := hidm (hSX (Obj.cells #[.int .i64 x.o, .int .i64 x.a, .int .i64 x.b, .int .i64 x.c, .int .i64 x.i] 30))
      clear hSX
      have hKW : ∀ {w9 : World}, Kept (T1 w1.heap.size tb tv) w1 w9 → Kept (TS n₁ tb) W w9 := fun {w9} h9 => (Kept.of_bel K1).trans (h9.mono fun k o ho s => by
        rcases s with s | ⟨i, hi, s⟩ | s
        · exact .inl s
        · obtain ⟨q1, cur, hcur⟩ := ownI_block (HF.out.rows i hi) _ s
          have h2 := bel_heap K1 hcur
          rw [h2] at ho
          cases ho
          exact .inr ⟨q1, rfl⟩
        · have := lt_of_heap ho
          omega)
      obtain ⟨p0, p1, p2, p3, p4⟩ := box_cells hbx
      have tail : ∀ (ww : World), Calls Try.prog 50 #[x.val] ww fun e w2 => e = .returned (.int .i64 x.wr) ∧ Bel ww w2 := fun ww => writes_any x.o x.a x.b x.c x.i ww
      have tact : ∀ (ww : World), Calls Try.prog 51 #[x.val] ww fun e w2 => e = .returned (.bool x.act) ∧ Bel ww w2 := fun ww => acts_any x.o x.a x.b x.c x.i ww
      unfold Ins.val at tail tact
      have HBX := hidm hbx
      have HFF := hidm hF
      have HLi := hidm hLi
      have HK1 := hidm K1
      have hbd := ins_bd x
      have hws := hK.size
      have hsx : W.heap.size < wr.heap.size := by omega
      clear hv HB hF hLi hL0 HLS hbx hx1 hrl
      by_cases hw : x.wr = 0
      · rw [hw] at tail
        cases ha : x.act with
        | false =>
          rw [ha] at tact
          have HQ := hidm (HLE.out (LK x.rdl.length) (fun i => by rw [hw, ha]; simp))
          clear HLE hw ha
          go_wp2_with (first
            | (have q := g2; go_at_call 51; refine (tact _).mono ?_; rintro e w3 ⟨rfl, g3⟩)
            | (go_at_call 50; refine (tail _).mono ?_; rintro e w2 ⟨rfl, g2⟩; obtain ⟨hc, hf⟩ := bcell g2))
          go_end0
          exact ⟨rfl, tv2, (HFF.out.bel (btrans g2 g3)).m HQ.out, hKW (hK.trans (Kept.of_bel (btrans g2 g3)))⟩
        | true =>
          rw [ha] at tact
          have HQ := hidm (HLE.out (updV (LK x.rdl.length) 64 [(n : Int)]) (fun i => by
            rw [hw, ha]
            unfold updV
            by_cases q : i = 64
            · subst q; simp
            · simp [q]))
          clear HLE hw ha
          obtain ⟨v0, o0, b0, hv0⟩ := ownI_cases (HFF.out.rows 64 (by omega))
          have c64 := fun ww (hb : Bel wr ww) => (HFF.out.bel hb).cell 64 (by omega)
          have hne := HFF.out.ne 64 (by omega)
          rw [← b0] at hne
          have HB0 := hidm b0
          have HO0 := hidm o0
          clear o0 b0
          rcases hv0 with ⟨e1, rfl⟩ | ⟨g64, cap64, e1, rfl⟩
          all_goals
            rw [e1] at c64
            clear e1
            go_wp2_with (first
              | (have q := g3; at_builtin; refine wpList_append_lies _ rfl (.tmp 69) (.tmp 71) 25 rfl n₁ 3 i0 _ 1 8 Try.underlying25 hi hz0 hz1 hz2 rfl (by decide) _ 0 [] rfl ((ownI_kept HO0.out (Kept.of_bel (S := fun _ _ => False) (btrans g2 g3)) (fun _ _ _ _ s => s)).alloc _) ⟨w3.heap.size, 0, none⟩ 1 1 [.int .i64 n] rfl rfl (cell_one_new _ _ _) (by intro u hu; simp at hu; subst hu; rfl) (by omega) (by unfold maxLen; omega) (by omega) (by have := g2.size; have := g3.size; simp; omega) (w3.heap.size + 1) (by simp) ?_; intro gg cap1 w4 hown1 hgrow hat hlt1; have hb1 := (hgrow.block tb (by have := g2.size; have := g3.size; simp; omega) hne.symm).trans (heap_old (HFF.out.bel (btrans g2 g3)).box); have f2 := frozen_of hb1 64; have c2 := cell65 hb1 64 (by omega); have HB1 := hidm hb1; clear hb1)
              | (have q := g2; go_at_call 51; refine (tact _).mono ?_; rintro e w3 ⟨rfl, g3⟩; have c9 := c64 w3 (btrans g2 g3))
              | (go_at_call 50; refine (tail _).mono ?_; rintro e w2 ⟨rfl, g2⟩; obtain ⟨hc, hf⟩ := bcell g2))
            go_end0
            obtain ⟨r1, r2, r3⟩ := (HFF.out.bel (btrans g2 g3)).pushed 64 (by omega) _ HB0.out [] n _ (fun S => Kept.alloc S _ _) gg cap1 _ hown1 hgrow hat (Nat.le_succ _)
            exact ⟨rfl, _, r1.m HQ.out, hKW ((hK.trans (Kept.of_bel (btrans g2 g3))).trans (T1.of HLi.out 64 (by omega) r2))⟩
      · obtain ⟨m, hm⟩ : ∃ m : Nat, x.wr = m := ⟨x.wr.toNat, by omega⟩
        have hm32 : m < 32 := by omega
        have hml : (m : Int) < 32 := by omega
        have hm0 : ¬ (m : Int) = 0 := by omega
        have hnn : ((m : Int) != 0) = true := by simpa using hm0
        have hm64 : m < 65 := by omega
        have hm64' : 32 + m < 65 := by omega
        rw [hm] at tail
        obtain ⟨v0, o0, b0, hv0⟩ := ownI_cases (HFF.out.rows m hm64)
        have c0 := fun ww (hb : Bel wr ww) => (HFF.out.bel hb).cell m hm64
        have hne := HFF.out.ne m hm64
        rw [← b0] at hne
        have HB0 := hidm b0
        have HO0 := hidm o0
        have HM := hidm hm
        have hw0 := hw
        have HQf : Hid (x.act = false → ∀ i, i < 65 → updV (updV (LK x.rdl.length) m [(n : Int)]) (32 + m) [] i = trL X (n + 1) i) := fun ha => HLE.out (updV (updV (LK x.rdl.length) m [(n : Int)]) (32 + m) []) (fun i => by rw [hm, ha]; exact upd_full m hm0 hm32 n (LK x.rdl.length) false i)
        have HQt : Hid (x.act = true → ∀ i, i < 65 → updV (updV (updV (LK x.rdl.length) m [(n : Int)]) (32 + m) []) 64 [(n : Int)] i = trL X (n + 1) i) := fun ha => HLE.out (updV (updV (updV (LK x.rdl.length) m [(n : Int)]) (32 + m) []) 64 [(n : Int)]) (fun i => by rw [hm, ha]; exact upd_full m hm0 hm32 n (LK x.rdl.length) true i)
        clear o0 b0 hm hw hw0 HLE
        rcases hv0 with ⟨e1, rfl⟩ | ⟨g64, cap64, e1, rfl⟩
        all_goals
          rw [e1] at c0
          clear e1
          go_wp2_with (go_at_call 50; refine (tail _).mono ?_; rintro e w2 ⟨rfl, g2⟩; have c8 := c0 w2 g2; have g2s := g2.size; have htb2 := lt_of_heap (HFF.out.bel g2).box)
          go_region_law
            ((refine step_append_lies _ (by rfl) _ _ _ (by rfl) n₁ 3 i0 _ 1 8 Try.underlying25 hi hz0 hz1 hz2 rfl (by omega) _ 0 [] (by rfl) (((ownI_kept HO0.out (Kept.of_bel (S := fun _ _ => False) g2) (fun _ _ _ _ s => s)).alloc _).drew)
                ⟨w2.heap.size, 0, none⟩ 1 1 [.int .i64 n] (by rfl) (by rfl) (World.news_of_block (cs := #[.int .i64 n]) (t := 3) (fr := (0, 0)) (heap_alloc_new w2 _)) (by simp [Value.oneCell'])
                (by omega) (by unfold maxLen; omega) (by omega) (by simp; omega) (w2.heap.size + 1) (by simp) ?_; intro gg cap1 w3 hown1 hgrow hat hlt1; have hb1 := (hgrow.block tb (by simp; omega) hne.symm).trans (heap_old (HFF.out.bel g2).box); have f2 := frozen_of hb1 m; have c2 := cell65 hb1 m hm64; have HBB := hidm hb1; clear hb1))
          all_goals
            obtain ⟨r1, r2, r3⟩ := (HFF.out.bel g2).pushed m hm64 _ HB0.out [] n _ (fun S => (Kept.alloc S _ _).trans (Kept.drew _ _)) gg cap1 _ hown1 hgrow hat (Nat.le_succ _)
            have r4 := T1.of HLi.out m hm64 r2
            have r5 := HLi.out.put m hm64 (fun k' e => (r3 k' e).imp id (fun q => by omega))
            have hsz5 := r2.size
            have hbx5 := r4.block _ _ (bel_heap g2 HBX.out) HSX.out
            generalize w3.setCell ⟨tb, m, none⟩ (Value.slice (some ⟨gg, 0, none⟩) 1 cap1) = w5 at r1 r2 r4 hsz5 hbx5 ⊢
            rw [show ([] ++ [(n : Int)]) = [(n : Int)] from rfl] at r1
            generalize updV tv2 m (Value.slice (some ⟨gg, 0, none⟩) (([] : List Int).length + 1) cap1) = tv3 at r1 r5
            obtain ⟨v1, o1, b1, hv1⟩ := ownI_cases (r1.rows (32 + m) hm64')
            have d1 := r1.cell (32 + m) hm64'
            have e1f := frozen_of r1.box (32 + m)
            obtain ⟨s1, s2⟩ := r1.put (32 + m) hm64' v1 [] (Kept.refl _ _) o1 (fun g e => .inl (by rw [← b1]; exact e))
            have s3 := r5.put (32 + m) hm64' (v := v1) (fun g e => .inl (by rw [← b1]; exact e))
            have s4 := T1.of r5 (32 + m) hm64' s2
            have s5 := s4.block _ _ hbx5 HSX.out
            have S1 := hidm s1
            have S3 := hidm s3
            have S4 := hidm s4
            have S5 := hidm s5
            clear s1 s2 s3 s4 s5 r1 r2 r5 o1 b1 hbx5 hown1 hgrow hat r3 hsz5
            rcases hv1 with ⟨e1, rfl⟩ | ⟨g65, cap65, e1, rfl⟩
            all_goals
              rw [e1] at d1
              clear e1
              go_wp2
              go_region
              have F6 := S1.out.bel (Bel.refl _).drew
              have K6 := S4.out.trans (Kept.drew _ _)
              have B6 := bel_heap (Bel.refl _).drew S5.out
              clear S1 S4 S5
              generalize World.drew _ = w6 at F6 K6 B6 ⊢
              obtain ⟨p0, p1, p2, p3, p4⟩ := box_cells B6
              have hs6 := lt_of_heap B6
              have ht6 := lt_of_heap F6.box
              clear B6
              cases ha : x.act with
              | false =>
                have HQ := hidm (HQf.out ha)
                rw [ha] at tact
                clear HQf HQt ha
                go_wp2_with (go_at_call 51; refine (tact _).mono ?_; rintro e w7 ⟨rfl, g7⟩)
                go_end0
                exact ⟨rfl, _, (F6.bel g7).m HQ.out, hKW (hK.trans ((Kept.of_bel g2).trans (r4.trans (K6.trans (Kept.of_bel g7)))))⟩
              | true =>
                have HQ := hidm (HQt.out ha)
                rw [ha] at tact
                clear HQf HQt ha
                obtain ⟨v9, o9, b9, hv9⟩ := ownI_cases (F6.rows 64 (by omega))
                have c64 := fun ww (hb : Bel w6 ww) => (F6.bel hb).cell 64 (by omega)
                have hne9 := F6.ne 64 (by omega)
                rw [← b9] at hne9
                have HB9 := hidm b9
                have HO9 := hidm o9
                have FF6 := hidm F6
                clear o9 b9 F6
                rcases hv9 with ⟨e1, rfl⟩ | ⟨g67, cap67, e1, rfl⟩
                all_goals
                  rw [e1] at c64
                  clear e1
                  go_wp2_with (first
                    | (have q := g7; at_builtin; refine wpList_append_lies _ rfl (.tmp 69) (.tmp 71) 25 rfl n₁ 3 i0 _ 1 8 Try.underlying25 hi hz0 hz1 hz2 rfl (by decide) _ 0 [] rfl ((ownI_kept HO9.out (Kept.of_bel (S := fun _ _ => False) g7) (fun _ _ _ _ s => s)).alloc _) ⟨w7.heap.size, 0, none⟩ 1 1 [.int .i64 n] rfl rfl (cell_one_new _ _ _) (by intro u hu; simp at hu; subst hu; rfl) (by omega) (by unfold maxLen; omega) (by omega) (by have := g7.size; simp; omega) (w7.heap.size + 1) (by simp) ?_; intro gg2 cap2 w8 hown2 hgrow2 hat2 hlt2'; have hb1 := (hgrow2.block tb (by have := g7.size; simp; omega) hne9.symm).trans (heap_old (FF6.out.bel g7).box); have f9 := frozen_of hb1 64; have c9' := cell65 hb1 64 (by omega); have HBB := hidm hb1; clear hb1)
                    | (go_at_call 51; refine (tact _).mono ?_; rintro e w7 ⟨rfl, g7⟩; have c9 := c64 w7 g7))
                  go_end0
                  obtain ⟨t1, t2, t3⟩ := (FF6.out.bel g7).pushed 64 (by omega) _ HB9.out [] n _ (fun S => Kept.alloc S _ _) gg2 cap2 _ hown2 hgrow2 hat2 (Nat.le_succ _)
                  exact ⟨rfl, _, t1.m HQ.out, hKW (hK.trans ((Kept.of_bel g2).trans (r4.trans (K6.trans ((Kept.of_bel g7).trans (T1.of S3.out 64 (by omega) t2))))))⟩
end
end Go.Proofs.Ytpmofaajkhllpaa
