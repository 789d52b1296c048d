/-
  The contract of the reference's Parse of layer 4.
-/
import Derived.Test.YtbkmdmmcjaanmaaDoorRps
import Derived.Deep.RegionHeld3
namespace Go.Proofs.YtbkmdmmcjaanmaaDoor
set_option maxRecDepth 20000
open Go.ChangeShapes Go.WideShapes Go.ChangeAt Go.RowKit
open Go.Lib hiding intOf

def intsV (L : List Int) : List Value := L.map (Value.int .i64)
def candL (l0 l1 l2 : Int) (k j : Nat) : Ins := ⟨k, (cand l0 l1 l2 j).1, (cand l0 l1 l2 j).2.1, (cand l0 l1 l2 j).2.2.1, (cand l0 l1 l2 j).2.2.2⟩
theorem six_code (w : World) (l0 l1 l2 : Int) (k j : Nat) (h : j < 6) :
    (w.alloc (.cells #[.int .i64 k, .int .i64 0, .int .i64 0, .int .i64 0, .int .i64 0, .int .i64 k, .int .i64 l0, .int .i64 l1, .int .i64 l2, .int .i64 0, .int .i64 k, .int .i64 l0, .int .i64 l1, .int .i64 0, .int .i64 l2, .int .i64 k, .int .i64 l0, .int .i64 0, .int .i64 0, .int .i64 l1, .int .i64 k, .int .i64 0, .int .i64 0, .int .i64 0, .int .i64 l0, .int .i64 k, .int .i64 l0, .int .i64 0, .int .i64 0, .int .i64 0] 23)).cell? ⟨w.heap.size, j * 5, none⟩ = some (.int .i64 (candL l0 l1 l2 k j).o) ∧ (w.alloc (.cells #[.int .i64 k, .int .i64 0, .int .i64 0, .int .i64 0, .int .i64 0, .int .i64 k, .int .i64 l0, .int .i64 l1, .int .i64 l2, .int .i64 0, .int .i64 k, .int .i64 l0, .int .i64 l1, .int .i64 0, .int .i64 l2, .int .i64 k, .int .i64 l0, .int .i64 0, .int .i64 0, .int .i64 l1, .int .i64 k, .int .i64 0, .int .i64 0, .int .i64 0, .int .i64 l0, .int .i64 k, .int .i64 l0, .int .i64 0, .int .i64 0, .int .i64 0] 23)).cell? ⟨w.heap.size, j * 5 + 1, none⟩ = some (.int .i64 (candL l0 l1 l2 k j).a) ∧ (w.alloc (.cells #[.int .i64 k, .int .i64 0, .int .i64 0, .int .i64 0, .int .i64 0, .int .i64 k, .int .i64 l0, .int .i64 l1, .int .i64 l2, .int .i64 0, .int .i64 k, .int .i64 l0, .int .i64 l1, .int .i64 0, .int .i64 l2, .int .i64 k, .int .i64 l0, .int .i64 0, .int .i64 0, .int .i64 l1, .int .i64 k, .int .i64 0, .int .i64 0, .int .i64 0, .int .i64 l0, .int .i64 k, .int .i64 l0, .int .i64 0, .int .i64 0, .int .i64 0] 23)).cell? ⟨w.heap.size, j * 5 + 2, none⟩ = some (.int .i64 (candL l0 l1 l2 k j).b) ∧
    (w.alloc (.cells #[.int .i64 k, .int .i64 0, .int .i64 0, .int .i64 0, .int .i64 0, .int .i64 k, .int .i64 l0, .int .i64 l1, .int .i64 l2, .int .i64 0, .int .i64 k, .int .i64 l0, .int .i64 l1, .int .i64 0, .int .i64 l2, .int .i64 k, .int .i64 l0, .int .i64 0, .int .i64 0, .int .i64 l1, .int .i64 k, .int .i64 0, .int .i64 0, .int .i64 0, .int .i64 l0, .int .i64 k, .int .i64 l0, .int .i64 0, .int .i64 0, .int .i64 0] 23)).cell? ⟨w.heap.size, j * 5 + 3, none⟩ = some (.int .i64 (candL l0 l1 l2 k j).c) ∧ (w.alloc (.cells #[.int .i64 k, .int .i64 0, .int .i64 0, .int .i64 0, .int .i64 0, .int .i64 k, .int .i64 l0, .int .i64 l1, .int .i64 l2, .int .i64 0, .int .i64 k, .int .i64 l0, .int .i64 l1, .int .i64 0, .int .i64 l2, .int .i64 k, .int .i64 l0, .int .i64 0, .int .i64 0, .int .i64 l1, .int .i64 k, .int .i64 0, .int .i64 0, .int .i64 0, .int .i64 l0, .int .i64 k, .int .i64 l0, .int .i64 0, .int .i64 0, .int .i64 0] 23)).cell? ⟨w.heap.size, j * 5 + 4, none⟩ = some (.int .i64 (candL l0 l1 l2 k j).i) := by
  have e : (w.alloc (.cells #[.int .i64 k, .int .i64 0, .int .i64 0, .int .i64 0, .int .i64 0, .int .i64 k, .int .i64 l0, .int .i64 l1, .int .i64 l2, .int .i64 0, .int .i64 k, .int .i64 l0, .int .i64 l1, .int .i64 0, .int .i64 l2, .int .i64 k, .int .i64 l0, .int .i64 0, .int .i64 0, .int .i64 l1, .int .i64 k, .int .i64 0, .int .i64 0, .int .i64 0, .int .i64 l0, .int .i64 k, .int .i64 l0, .int .i64 0, .int .i64 0, .int .i64 0] 23)).heap[w.heap.size]? = some (.cells #[.int .i64 k, .int .i64 0, .int .i64 0, .int .i64 0, .int .i64 0, .int .i64 k, .int .i64 l0, .int .i64 l1, .int .i64 l2, .int .i64 0, .int .i64 k, .int .i64 l0, .int .i64 l1, .int .i64 0, .int .i64 l2, .int .i64 k, .int .i64 l0, .int .i64 0, .int .i64 0, .int .i64 l1, .int .i64 k, .int .i64 0, .int .i64 0, .int .i64 0, .int .i64 l0, .int .i64 k, .int .i64 l0, .int .i64 0, .int .i64 0, .int .i64 0] 23 (0, 0)) := heap_alloc_new _ _
  have hc : j = 0 ∨ j = 1 ∨ j = 2 ∨ j = 3 ∨ j = 4 ∨ j = 5 := by omega
  rcases hc with rfl | rfl | rfl | rfl | rfl | rfl <;> (refine ⟨?_, ?_, ?_, ?_, ?_⟩ <;> (rw [Lib.cell_of_heap e]; rfl))
theorem ahead_op' {l : List UInt8} {L : List Int} {k : Nat} (hL : L = numsL l) (h : Ahead l L k 6) : Ahead l L (k + 1) 0 := by subst hL; exact ahead_op h
theorem rp_some {l : List UInt8} {c : Ins} (h : parseO l = some c) : Ending.returned (.tuple #[.agg #[.int .i64 c.o, .int .i64 c.a, .int .i64 c.b, .int .i64 c.c, .int .i64 c.i], .bool true]) = .returned (.tuple #[.agg #[.int .i64 (parseI l).o, .int .i64 (parseI l).a, .int .i64 (parseI l).b, .int .i64 (parseI l).c, .int .i64 (parseI l).i], .bool (parseO l).isSome]) := by
  unfold parseI; rw [h]; rfl
theorem rp_none {l : List UInt8} (h : parseO l = none) : Ending.returned (.tuple #[.agg #[.int .i64 0, .int .i64 0, .int .i64 0, .int .i64 0, .int .i64 0], .bool false]) = .returned (.tuple #[.agg #[.int .i64 (parseI l).o, .int .i64 (parseI l).a, .int .i64 (parseI l).b, .int .i64 (parseI l).c, .int .i64 (parseI l).i], .bool (parseO l).isSome]) := by
  unfold parseI; rw [h]; rfl
def Z5 (b : Nat) (x : World) : Prop := x.cell? ⟨b, 0, none⟩ = some (.int .i64 0) ∧ x.cell? ⟨b, 1, none⟩ = some (.int .i64 0) ∧ x.cell? ⟨b, 2, none⟩ = some (.int .i64 0) ∧ x.cell? ⟨b, 3, none⟩ = some (.int .i64 0) ∧ x.cell? ⟨b, 4, none⟩ = some (.int .i64 0) ∧
  x.frozen? ⟨b, 0, none⟩ = false ∧ x.frozen? ⟨b, 1, none⟩ = false ∧ x.frozen? ⟨b, 2, none⟩ = false ∧ x.frozen? ⟨b, 3, none⟩ = false ∧ x.frozen? ⟨b, 4, none⟩ = false
set_option maxHeartbeats 4000000 in
set_option maxRecDepth 20000 in
theorem rparse_any (S : ByteArray) (w : World) (hS : S.size ≤ 100) :
    Calls Tryd.prog 14 #[.string S] w fun e w' => e = .returned (.tuple #[.agg #[.int .i64 (parseI S.data.toList).o, .int .i64 (parseI S.data.toList).a, .int .i64 (parseI S.data.toList).b, .int .i64 (parseI S.data.toList).c, .int .i64 (parseI S.data.toList).i], .bool (parseO S.data.toList).isSome]) ∧ Bel w w' := by
  obtain ⟨i0, hi, hz0, hz1, hz2⟩ := info_parts int_info
  have hsl : S.data.toList.length = S.size := (Lib.size_eq S).symm
  have HSL : Hid _ := hsl
  clear hsl
  have HST : Hid (∀ p, p < S.data.toList.length → _) := nums_step S.data.toList
  go_enter Tryd.func14, Tryd.ntmps14
  go_wp2_with fail
  have hB : Bel w (w.alloc (Obj.cells #[.int .i64 0, .int .i64 0, .int .i64 0, .int .i64 0, .int .i64 0] 23)) := (Bel.refl w).alloc _
  have hbx : ∀ u : Later (w.alloc (Obj.cells #[.int .i64 0, .int .i64 0, .int .i64 0, .int .i64 0, .int .i64 0] 23)), Z5 w.heap.size u.at_ := fun u => boxed5 u.is_
  have hwz : ∀ u : Later (w.alloc (Obj.cells #[.int .i64 0, .int .i64 0, .int .i64 0, .int .i64 0, .int .i64 0] 23)), w.heap.size < u.at_.heap.size := later_size (by simp)
  generalize w.alloc (Obj.cells #[.int .i64 0, .int .i64 0, .int .i64 0, .int .i64 0, .int .i64 0] 23) = w1 at hB hbx hwz ⊢
  haveI := Later.ne w1
  go_loopw [4, 5] (fun v a wr => ∃ (L : List Int) (p : Nat) (u : Later w1), p ≤ S.size ∧ a = .int .i64 p ∧ u.at_.ownsRow w1.heap.size 3 1 v L.length (intsV L) ∧ Hid (L ++ numsL (S.data.toList.drop p) = numsL S.data.toList) ∧ L.length ≤ p ∧ wr = u.at_) (fun _ a _ => S.size - (intOf a).toNat)
  case atStart => exact ⟨[], 0, ⟨w1, Bel.refl _⟩, Nat.zero_le _, rfl, World.ownsRow_nil _ _ _ _, rfl, Nat.le_refl _, rfl⟩
  case round =>
    obtain ⟨L, p, u, hp, rfl, hown, hN, hLp, rfl⟩ := hrel
    by_cases hlt : p < S.size
    · have hst : Hid _ := HST.out p (by rw [HSL.out]; exact hlt)
      have hle := numAt_le (S.data.toList.drop p)
      have hdl : (S.data.toList.drop p).length = S.size - p := by rw [List.length_drop, HSL.out]
      rw [hdl] at hle
      clear hdl
      obtain ⟨hle1, hle2, hle3⟩ := hle
      by_cases h0 : (numAt (S.data.toList.drop p)).2 = 0
      · have hR : Hid (numR S.data.toList p = (0, -1)) := by show _ = _; unfold numR; rw [if_pos h0]
        have hN' : Hid (L ++ numsL (S.data.toList.drop (p + 1)) = numsL S.data.toList) := by show _ = _; rw [← hN.out, hst.out, if_pos h0]
        clear hN hst h0 hle1 hle2 hle3
        go_wp2_with (go_at_call 26; refine (number_any _ _ _ (by omega) hp).mono ?_; rintro e _ ⟨rfl, rfl⟩; rw [hR.out])
        go_roundw
        case rel => exact ⟨L, p + 1, u, by omega, by go_num, hown, hN', by omega, rfl⟩
        case measure => simp [intOf]; omega
      · have hR : Hid (numR S.data.toList p = ((numAt (S.data.toList.drop p)).1, p + ((numAt (S.data.toList.drop p)).2 : Int))) := by show _ = _; unfold numR; rw [if_neg h0]
        have hN' : Hid (L ++ [(numAt (S.data.toList.drop p)).1] ++ numsL (S.data.toList.drop (p + (numAt (S.data.toList.drop p)).2)) = numsL S.data.toList) := by show _ = _; rw [← hN.out, hst.out, if_neg h0]; simp
        clear hN hst
        have hsz := u.is_.size
        generalize (numAt (S.data.toList.drop p)).1 = v at hR hN' hle2 hle3
        generalize (numAt (S.data.toList.drop p)).2 = k at hR hN' hle1 h0
        go_wp2_with (first
          | (go_at_call 26; refine (number_any _ _ _ (by omega) hp).mono ?_; rintro e _ ⟨rfl, rfl⟩; rw [hR.out])
          | (at_builtin; refine wpList_append_own _ rfl (.tmp 25) (.tmp 27) 41 rfl w1.heap.size 3 i0 (.int .i64 0) 1 8 Tryd.underlying41 hi hz0 hz1 hz2 rfl (by decide) _ L.length (intsV L) rfl (hown.alloc _) ⟨u.at_.heap.size, 0, none⟩ 1 1 [.int .i64 v] rfl rfl (by intro j u hj; match j, hj with | 0, hj => (simp at hj; subst hj; simp [Addr.add])) (by intro u hu; simp at hu; subst hu; rfl) (by unfold maxLen; omega) (by omega) (by simp; omega) ?_; intro v1 w5 hown1 hgrow1 _))
        go_roundw
        case rel => exact ⟨L ++ [v], p + k, ⟨w5, ((u.is_).alloc _).grown hgrow1 (fun j hj => (hown.lt j hj).1)⟩, by omega, by go_num, by unfold intsV; rw [List.map_append, List.length_append]; exact hown1, hN', by simp; omega, rfl⟩
        case measure => simp [intOf]; omega
    · have hpe : p = S.size := by omega
      have hLN : L = numsL S.data.toList := by
        have := hN.out
        rw [List.drop_eq_nil_of_le (by rw [HSL.out]; omega), nums_nil, List.append_nil] at this
        exact this
      have hah := ahead_start S.data.toList
      rw [← hLN] at hah
      have hL100 : L.length ≤ 100 := by omega
      have hnl : ¬ (p : Int) < S.size := by omega
      clear hpe hN hp hlt hLp
      have HLN : Hid _ := hLN
      have HA : Hid _ := hah
      clear hLN hah
      obtain ⟨ao, cap, rfl, -⟩ := ints_view hown
      go_wp2_with fail
      go_loopw [4] (fun v wr => ∃ (M : List Int) (u : Later w1), M.length ≤ 103 ∧ u.at_.ownsRow w1.heap.size 3 1 v M.length (intsV M) ∧ Hid (∀ k, padL M k = padL L k) ∧ wr = u.at_) (fun v _ => 3 - lenOf v)
      case atStart => exact ⟨L, u, by omega, hown, fun _ => rfl, rfl⟩
      case round =>
        clear hown
        obtain ⟨M, u3, hM, hown, hpad, rfl⟩ := hrel
        obtain ⟨ao, cap, rfl, hvw⟩ := ints_view hown
        by_cases hlt : M.length < 3
        · have hsz := u3.is_.size
          go_wp2_with (at_builtin; refine wpList_append_own _ rfl (.tmp 33) (.tmp 34) 41 rfl w1.heap.size 3 i0 (.int .i64 0) 1 8 Tryd.underlying41 hi hz0 hz1 hz2 rfl (by decide) _ M.length (intsV M) rfl (hown.alloc _) ⟨u3.at_.heap.size, 0, none⟩ 1 1 [.int .i64 0] rfl rfl (by intro j u hj; match j, hj with | 0, hj => (simp at hj; subst hj; simp [Addr.add])) (by intro u hu; simp at hu; subst hu; rfl) (by unfold maxLen; omega) (by omega) (by simp; omega) ?_; intro v1 w5 hown1 hgrow1 _)
          go_roundw
          case rel => exact ⟨M ++ [0], ⟨w5, ((u3.is_).alloc _).grown hgrow1 (fun j hj => (hown.lt j hj).1)⟩, by simp; omega, by unfold intsV; rw [List.map_append, List.length_append]; exact hown1, pad_more hpad.out, rfl⟩
          case measure =>
            obtain ⟨a1, c1, rfl⟩ : ∃ a c, v1 = .slice a (M.length + 1) c := by
              rcases hown1.2 with ⟨h1, h2⟩ | ⟨g', cap', cur, h1, _⟩
              · omega
              · exact ⟨_, _, h1⟩
            simp [lenOf]; omega
        · obtain ⟨G, rfl, hG1, hG2, hG3, hG4, hG5⟩ := hvw (by omega)
          have p0 := hG5 0 (by omega)
          have p1 := hG5 1 (by omega)
          have p2 := hG5 2 (by omega)
          have q0 : M.getD 0 0 = padL L 0 := hpad.out 0
          have q1 : M.getD 1 0 = padL L 1 := hpad.out 1
          have q2 : M.getD 2 0 = padL L 2 := hpad.out 2
          rw [q0] at p0
          rw [q1] at p1
          rw [q2] at p2
          have hB2 := btrans hB u3.is_
          have hbx2 := later_down u3.is_ (p := fun x => Z5 w.heap.size x) hbx
          have hwz2 := later_down u3.is_ (p := fun x => w.heap.size < x.heap.size) hwz
          clear q0 q1 q2 hG5 hvw hpad hown hbx hwz
          have hML : 3 ≤ M.length := by omega
          have hMc : M.length ≤ cap := hG3
          generalize M.length = m at hML hMc hM hG3 ⊢
          generalize u3.at_ = w2 at hB2 hbx2 hwz2 p0 p1 p2 hG2 ⊢
          have P0 := later_cell p0 hG2
          have P1 := later_cell p1 hG2
          have P2 := later_cell p2 hG2
          clear p0 p1 p2
          haveI := Later.ne w2
          go_wp2_with fail
          go_loopw [8] (fun i wr => ∃ (k : Nat) (x : Later w2), k ≤ 21 ∧ i = .int .i64 k ∧ Hid (Ahead S.data.toList L k 0) ∧ wr = x.at_) (fun i _ => 21 - (intOf i).toNat)
          case atStart => exact ⟨0, ⟨w2, Bel.refl _⟩, Nat.zero_le _, rfl, HA, rfl⟩
          case round =>
            obtain ⟨k, x, hk, rfl, hAk, rfl⟩ := hrel
            by_cases hlk : k < 21
            · have m0 : 0 < m := by omega
              have m1 : (1 : Int) < (m : Int) := by omega
              have m2 : (2 : Int) < (m : Int) := by omega
              have hAh : Hid (∀ j, candI L k j = candL (padL L 0) (padL L 1) (padL L 2) k j) := fun _ => rfl
              generalize padL L 0 = l0 at P0 hAh
              generalize padL L 1 = l1 at P1 hAh
              generalize padL L 2 = l2 at P2 hAh
              have s0 := P0 x
              have s1 := P1 x
              have s2 := P2 x
              have hsix : Hid _ := six_code x.at_ l0 l1 l2 k
              have hb3 : Bel w2 (x.at_.alloc (.cells #[.int .i64 k, .int .i64 0, .int .i64 0, .int .i64 0, .int .i64 0, .int .i64 k, .int .i64 l0, .int .i64 l1, .int .i64 l2, .int .i64 0, .int .i64 k, .int .i64 l0, .int .i64 l1, .int .i64 0, .int .i64 l2, .int .i64 k, .int .i64 l0, .int .i64 0, .int .i64 0, .int .i64 l1, .int .i64 k, .int .i64 0, .int .i64 0, .int .i64 0, .int .i64 l0, .int .i64 k, .int .i64 l0, .int .i64 0, .int .i64 0, .int .i64 0] 23)).drew := (x.is_.alloc _).drew
              have hlt3 : x.at_.heap.size < (x.at_.alloc (.cells #[.int .i64 k, .int .i64 0, .int .i64 0, .int .i64 0, .int .i64 0, .int .i64 k, .int .i64 l0, .int .i64 l1, .int .i64 l2, .int .i64 0, .int .i64 k, .int .i64 l0, .int .i64 l1, .int .i64 0, .int .i64 l2, .int .i64 k, .int .i64 l0, .int .i64 0, .int .i64 0, .int .i64 l1, .int .i64 k, .int .i64 0, .int .i64 0, .int .i64 0, .int .i64 l0, .int .i64 k, .int .i64 l0, .int .i64 0, .int .i64 0, .int .i64 0] 23)).drew.heap.size := by simp
              go_wp2_with fail
              go_region_held (fun w' => w'.cell? ⟨G, 0, none⟩ = some (.int .i64 l0) ∧ w'.cell? ⟨G, 1, none⟩ = some (.int .i64 l1) ∧ w'.cell? ⟨G, 2, none⟩ = some (.int .i64 l2)) (go_keep) (fail)
              have hsix3 : Hid (∀ j, j < 6 → (x.at_.alloc (.cells #[.int .i64 k, .int .i64 0, .int .i64 0, .int .i64 0, .int .i64 0, .int .i64 k, .int .i64 l0, .int .i64 l1, .int .i64 l2, .int .i64 0, .int .i64 k, .int .i64 l0, .int .i64 l1, .int .i64 0, .int .i64 l2, .int .i64 k, .int .i64 l0, .int .i64 0, .int .i64 0, .int .i64 l1, .int .i64 k, .int .i64 0, .int .i64 0, .int .i64 0, .int .i64 l0, .int .i64 k, .int .i64 l0, .int .i64 0, .int .i64 0, .int .i64 0] 23)).drew.cell? ⟨x.at_.heap.size, j * 5, none⟩ = some (.int .i64 (candL l0 l1 l2 k j).o) ∧ (x.at_.alloc (.cells #[.int .i64 k, .int .i64 0, .int .i64 0, .int .i64 0, .int .i64 0, .int .i64 k, .int .i64 l0, .int .i64 l1, .int .i64 l2, .int .i64 0, .int .i64 k, .int .i64 l0, .int .i64 l1, .int .i64 0, .int .i64 l2, .int .i64 k, .int .i64 l0, .int .i64 0, .int .i64 0, .int .i64 l1, .int .i64 k, .int .i64 0, .int .i64 0, .int .i64 0, .int .i64 l0, .int .i64 k, .int .i64 l0, .int .i64 0, .int .i64 0, .int .i64 0] 23)).drew.cell? ⟨x.at_.heap.size, j * 5 + 1, none⟩ = some (.int .i64 (candL l0 l1 l2 k j).a) ∧ (x.at_.alloc (.cells #[.int .i64 k, .int .i64 0, .int .i64 0, .int .i64 0, .int .i64 0, .int .i64 k, .int .i64 l0, .int .i64 l1, .int .i64 l2, .int .i64 0, .int .i64 k, .int .i64 l0, .int .i64 l1, .int .i64 0, .int .i64 l2, .int .i64 k, .int .i64 l0, .int .i64 0, .int .i64 0, .int .i64 l1, .int .i64 k, .int .i64 0, .int .i64 0, .int .i64 0, .int .i64 l0, .int .i64 k, .int .i64 l0, .int .i64 0, .int .i64 0, .int .i64 0] 23)).drew.cell? ⟨x.at_.heap.size, j * 5 + 2, none⟩ = some (.int .i64 (candL l0 l1 l2 k j).b) ∧
                (x.at_.alloc (.cells #[.int .i64 k, .int .i64 0, .int .i64 0, .int .i64 0, .int .i64 0, .int .i64 k, .int .i64 l0, .int .i64 l1, .int .i64 l2, .int .i64 0, .int .i64 k, .int .i64 l0, .int .i64 l1, .int .i64 0, .int .i64 l2, .int .i64 k, .int .i64 l0, .int .i64 0, .int .i64 0, .int .i64 l1, .int .i64 k, .int .i64 0, .int .i64 0, .int .i64 0, .int .i64 l0, .int .i64 k, .int .i64 l0, .int .i64 0, .int .i64 0, .int .i64 0] 23)).drew.cell? ⟨x.at_.heap.size, j * 5 + 3, none⟩ = some (.int .i64 (candL l0 l1 l2 k j).c) ∧ (x.at_.alloc (.cells #[.int .i64 k, .int .i64 0, .int .i64 0, .int .i64 0, .int .i64 0, .int .i64 k, .int .i64 l0, .int .i64 l1, .int .i64 l2, .int .i64 0, .int .i64 k, .int .i64 l0, .int .i64 l1, .int .i64 0, .int .i64 l2, .int .i64 k, .int .i64 l0, .int .i64 0, .int .i64 0, .int .i64 l1, .int .i64 k, .int .i64 0, .int .i64 0, .int .i64 0, .int .i64 l0, .int .i64 k, .int .i64 l0, .int .i64 0, .int .i64 0, .int .i64 0] 23)).drew.cell? ⟨x.at_.heap.size, j * 5 + 4, none⟩ = some (.int .i64 (candL l0 l1 l2 k j).i)) := hsix.out
              clear hsix
              generalize (x.at_.alloc (.cells #[.int .i64 k, .int .i64 0, .int .i64 0, .int .i64 0, .int .i64 0, .int .i64 k, .int .i64 l0, .int .i64 l1, .int .i64 l2, .int .i64 0, .int .i64 k, .int .i64 l0, .int .i64 l1, .int .i64 0, .int .i64 l2, .int .i64 k, .int .i64 l0, .int .i64 0, .int .i64 0, .int .i64 l1, .int .i64 k, .int .i64 0, .int .i64 0, .int .i64 0, .int .i64 l0, .int .i64 k, .int .i64 l0, .int .i64 0, .int .i64 0, .int .i64 0] 23)).drew = w3 at hb3 hlt3 hsix3 ⊢
              generalize x.at_.heap.size = B4 at hlt3 hsix3 ⊢
              clear s0 s1 s2 P0 P1 P2
              have hbx3 := later_down hb3 (p := fun x => Z5 w.heap.size x) hbx2
              have hwz3 := later_down hb3 (p := fun x => w.heap.size < x.heap.size) hwz2
              haveI := Later.ne w3
              go_wp2_with fail
              go_loopw [84] (fun i wr => ∃ (j : Nat) (y : Later w3), j ≤ 6 ∧ i = .int .i64 j ∧ Hid (Ahead S.data.toList L k j) ∧ wr = y.at_) (fun i _ => 6 - (intOf i).toNat)
              case atStart => exact ⟨0, ⟨w3, Bel.refl _⟩, Nat.zero_le _, rfl, hAk, rfl⟩
              case round =>
                clear hAk
                obtain ⟨j, y, hj, rfl, hAj, rfl⟩ := hrel
                by_cases hlj : j < 6
                · obtain ⟨c0, c1, c2, c3, c4⟩ := hsix3.out j hlj
                  have C0 := later_cell c0 hlt3 y
                  have C1 := later_cell c1 hlt3 y
                  have C2 := later_cell c2 hlt3 y
                  have C3 := later_cell c3 hlt3 y
                  have C4 := later_cell c4 hlt3 y
                  have hcd : Hid (candI L k j = candL l0 l1 l2 k j) := hAh.out j
                  clear c0 c1 c2 c3 c4 hsix3 hAh
                  generalize candL l0 l1 l2 k j = c at C0 C1 C2 C3 C4 hcd
                  have hj6 : (j : Int) < 6 := by omega
                  cases hr : rightB c.o c.a c.b c.c c.i with
                  | false =>
                    have hAn : Hid (Ahead S.data.toList L k (j + 1)) := ahead_next hAj.out (by rw [hcd.out]; intro h; have h1 : rightB c.o c.a c.b c.c c.i = true := (parse_some h).1; rw [hr] at h1; cases h1)
                    go_wp2_with (go_at_call 10; refine (refRight_any _ _ _ _ _ _).mono ?_; rintro e w5 ⟨rfl, b5⟩; rw [hr]; have y5 := boxed5 b5)
                    go_roundw
                    case rel => exact ⟨j + 1, ⟨w5, btrans (y.is_.alloc _) b5⟩, by omega, by go_num, hAn, rfl⟩
                    case measure => simp [intOf]; omega
                  | true =>
                    by_cases hq : txtL c.o c.a c.b c.c c.i = S.data.toList
                    · have hpar : Hid (parseO S.data.toList = some c) := (test_iff _ c).1 ⟨hr, hq⟩
                      have hqb : ((bs (txtL c.o c.a c.b c.c c.i)).toList == S.toList) = true := by rw [bs_toList, ByteArray.toList_eq, hq]; simp
                      clear hq
                      go_wp2_with (first
                        | (go_at_call 10; refine (refRight_any _ _ _ _ _ _).mono ?_; rintro e w5 ⟨rfl, b5⟩; rw [hr]; have y5 := boxed5 b5)
                        | (go_at_call 13; refine (rtext_any _ _ _ _ _ _ hr).mono ?_; rintro e w6 ⟨rfl, b6⟩; have b56 := btrans b5 b6; have y6 := boxed5 b56; have hZ6 := hbx3 ⟨w6, btrans (y.is_.alloc _) b56⟩; have hs6 := hwz3 ⟨w6, btrans (y.is_.alloc _) b56⟩; unfold Z5 at hZ6; simp only at hZ6 hs6))
                      have hG := btrans (btrans hB2 hb3) (btrans (y.is_.alloc _) b56)
                      refine bodyPost_ret (v := ?_) ?_ rfl ⟨?_, ?_⟩
                      rotate_left 1
                      · simp only [results, Tryd.results14]; go_simp; rfl
                      · exact rp_some hpar.out
                      · repeat (first | with_reducible exact hG | with_reducible apply Bel.alloc | (with_reducible refine Bel.setCell ?_ ?_ _; rotate_left 1; (simp <;> omega)))
                    · have hAn : Hid (Ahead S.data.toList L k (j + 1)) := ahead_next hAj.out (by rw [hcd.out]; intro h; exact hq (parse_some h).2)
                      have hqb : ((bs (txtL c.o c.a c.b c.c c.i)).toList == S.toList) = false := by rw [bs_toList, ByteArray.toList_eq]; simpa using hq
                      clear hq
                      go_wp2_with (first
                        | (go_at_call 10; refine (refRight_any _ _ _ _ _ _).mono ?_; rintro e w5 ⟨rfl, b5⟩; rw [hr]; have y5 := boxed5 b5)
                        | (go_at_call 13; refine (rtext_any _ _ _ _ _ _ hr).mono ?_; rintro e w6 ⟨rfl, b6⟩))
                      go_roundw
                      case rel => exact ⟨j + 1, ⟨w6, btrans (btrans (y.is_.alloc _) b5) b6⟩, by omega, by go_num, hAn, rfl⟩
                      case measure => simp [intOf]; omega
                · have hj6 : j = 6 := by omega
                  subst hj6
                  have hAn : Hid (Ahead S.data.toList L (k + 1) 0) := ahead_op' HLN.out hAj.out
                  clear hsix3 hAh
                  go_wp2
                  go_roundw
                  case rel => exact ⟨k + 1, ⟨y.at_, btrans hb3 y.is_⟩, by omega, by go_num, hAn, rfl⟩
                  case measure => simp [intOf]; omega
            · have hk21 : k = 21 := by omega
              subst hk21
              have hpar : Hid (parseO S.data.toList = none) := ahead_end hAk.out
              have hZ := hbx2 x
              have hs := hwz2 x
              unfold Z5 at hZ
              clear hAk HA
              go_wp2
              have hG := btrans hB2 x.is_
              refine bodyPost_ret (v := ?_) ?_ rfl ⟨?_, ?_⟩
              rotate_left 1
              · simp only [results, Tryd.results14]; go_simp; rfl
              · exact rp_none hpar.out
              · repeat (first | with_reducible exact hG | with_reducible apply Bel.alloc | (with_reducible refine Bel.setCell ?_ ?_ _; rotate_left 1; (simp <;> omega)))
end Go.Proofs.YtbkmdmmcjaanmaaDoor
