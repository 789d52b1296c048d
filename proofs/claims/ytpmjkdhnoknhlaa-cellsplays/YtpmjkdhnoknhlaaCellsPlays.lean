/-
  CellsPlays: whatever is stored, what is told and what is there is what the document says.
  Conditions: none.
-/
import Derived.Test.YtpmjkdhnoknhlaaRows
import Derived.WalkKit
import Derived.ProofKit
import Derived.OpenShut
import Derived.ShutString
import Derived.ChangeOld
import Derived.Below
import Derived.Carry
import Derived.Test.YtpmjkdhnoknhlaaRef6
import Derived.Deep.RegionWith
namespace Go.Proofs.Ytpmjkdhnoknhlaa.cellsPlays
open Go.ChangeShapes Go.WideShapes Go.ChangeAt Go.RowKit
open Go.ChangeMaps (open_string shut_string)
set_option linter.unusedVariables false

theorem laidOut : laidOutB Try.prog = true := by kernel_rfl
theorem own : ownKnob Try.prog.godebug = none := by kernel_rfl
theorem hidm {p : Prop} (h : p) : Hid p := h

set_option maxRecDepth 20000 in
set_option maxHeartbeats 2000000 in
theorem walk (w : World) (x0 : Int) (wx0 : (Lit.int .i64 x0).wf = true) (y1 : Value) (X1 : List (Int × Int)) (wy1 : Acts w y1 X1) (vy1 : ∀ x ∈ X1, (Lit.int .i64 x.1).wf = true ∧ (Lit.int .i64 x.2).wf = true) (x2 : Int) (wx2 : (Lit.int .i64 x2).wf = true) :
    Calls Try.prog 3 #[.int .i64 x0, y1, .int .i64 x2] w fun e w' => e = .returned (.bool true) ∧ Bel w w' := by
  have hx0 := wf_i64 wx0
  have hx2 := wf_i64 wx2
  obtain ⟨ao, cap, rfl, hv⟩ := wy1
  rcases (show (x0 < 0) ∨ (32000 < x0) ∨ (40 < x0 ∧ x0 ≤ 32000) ∨ (0 ≤ x0 ∧ x0 ≤ 40) from by omega) with h0 | h0 | ⟨h0, h1⟩ | ⟨h0, h1⟩
  · have u0 : decide (40 < x0) = false := by simp; omega
    go_enter Try.func3, Try.ntmps3
    go_wp2_with (first
      | (go_at_call 9; refine (awake_any _).mono ?_; rintro e w9 ⟨rfl, b9⟩)
      | (go_at_call 10; refine (new_none _ _ (.inl h0)).mono ?_; rintro e w1 ⟨rfl, rfl⟩))
    go_ret
    exact ⟨rfl, b9⟩
  · have u0 : decide (x0 ≤ 32000) = false := by simp; omega
    have u1 : 40 < x0 := by omega
    have u2 : decide (x0 < 0) = false := by simp; omega
    go_enter Try.func3, Try.ntmps3
    go_wp2_with (first
      | (go_at_call 9; refine (awake_any _).mono ?_; rintro e w9 ⟨rfl, b9⟩)
      | (go_at_call 10; refine (new_none _ _ (.inr h0)).mono ?_; rintro e w1 ⟨rfl, rfl⟩))
    go_ret
    exact ⟨rfl, b9⟩
  · go_enter Try.func3, Try.ntmps3
    go_wp2_with (go_at_call 9; refine (awake_any _).mono ?_; rintro e w9 ⟨rfl, b9⟩)
    go_ret
    exact ⟨rfl, b9⟩
  · obtain ⟨n, rfl⟩ : ∃ n : Nat, x0 = n := ⟨x0.toNat, by omega⟩
    have hn40 : n ≤ 40 := by omega
    obtain ⟨i0, hi, hz0, hz1, hz2⟩ := info_parts intInfo
    have hmk : ∀ W : World, (Instr.makeSlice 26 (.int .i64 (n : Int)) (.int .i64 (n : Int))).run Try.prog W = .ok (.slice (some ⟨W.heap.size, 0, none⟩) n n) (W.alloc (.cells (((List.replicate n (0 : Int)).map (Value.int .i64)).toArray) 3)) := fun W => by
      have h := run_make (P := Try.prog) W 26 3 i0 (.int .i64 0) Try.underlying26 hi hz0 .i64 .i64 (n : Int) (n : Int) (by omega) (by omega) (by rw [hz2]; omega) (by omega)
      rw [hz1, Int.toNat_natCast, made_zero] at h
      exact h
    have hL : (List.replicate n (0 : Int)).length = n := List.length_replicate
    have hnew := fun W => new_any n n rfl (by omega) W
    generalize List.replicate n (0 : Int) = L0 at hL hnew hmk
    have HN : Hid (∀ W, Calls Try.prog 10 #[.int .i64 (n : Int)] W fun e w' => e = .returned (.pointer (some ⟨W.heap.size + 1, 0, none⟩)) ∧ IsM W.heap.size w' (W.heap.size + 1) W.heap.size L0 ∧ Bel W w') := hnew
    have HL0 : Hid (L0.length = n) := hL
    clear hnew hL wx0 hi hz0 hz1 hz2
    have u0 : decide (40 < (n : Int)) = false := by simp; omega
    have u1 : decide ((n : Int) < 0) = false := by simp
    have u2 : decide (32000 < (n : Int)) = false := by simp; omega
    go_enter Try.func3, Try.ntmps3
    go_wp2_with (go_at_call 10; refine (HN.out _).mono ?_; rintro e w1 ⟨rfl, m1, B1⟩)
    have r1 : (w1.alloc (.cells ((L0.map (Value.int .i64)).toArray) 3)).ownsRow (w.heap.size + 1) 3 1 (.slice (some ⟨w1.heap.size, 0, none⟩) n n) L0.length (L0.map (Value.int .i64)) := by
      have := World.ownsRow_lit (base := w.heap.size + 1) (e := 3) (size := 1) w1 (L0.map (Value.int .i64)).toArray n (by have := lt_of_heap m1.box; omega) (by unfold maxLen; omega) (by simp [HL0.out])
      rw [HL0.out]
      exact this
    have m2 := m1.bel ((Bel.refl w1).alloc (.cells ((L0.map (Value.int .i64)).toArray) 3))
    have B2 := B1.alloc (.cells ((L0.map (Value.int .i64)).toArray) 3)
    clear m1 hmk
    go_loopw [8, 9] (fun u i wr => ∃ (k : Nat) (L : List Int), k ≤ 60 ∧ i = .int .i64 k ∧ Hid (L.length = n) ∧ IsM w.heap.size wr (w.heap.size + 1) w.heap.size L ∧ wr.ownsRow (w.heap.size + 1) 3 1 u L.length (L.map (Value.int .i64)) ∧ Bel w wr) (fun _ i _ => 60 - (intOf i).toNat)
    case atStart => exact ⟨0, L0, Nat.zero_le _, rfl, HL0, m2, r1, B2⟩
    case round =>
      clear m2 B2 r1
      obtain ⟨k, L, hk, rfl, hin, m, hrow, hB⟩ := hrel
      by_cases hlt : k < X1.length ∧ k < 60
      · obtain ⟨hlt, hlt60⟩ := hlt
        obtain ⟨b, o, rfl, hb, hc⟩ := hv (by omega)
        have hc1 := ((bcell hB).1 b (o + k * 2) hb).trans (hc k hlt).1
        have hc2 := ((bcell hB).1 b (o + k * 2 + 1) hb).trans (hc k hlt).2
        have hwf := vy1 (X1[k]?.getD (0, 0)) (by simp [hlt])
        clear hc hv vy1
        generalize X1[k]?.getD (0, 0) = q at hc1 hc2 hwf
        obtain ⟨a, v⟩ := q
        simp only at hc1 hc2 hwf
        have hlt' : (k : Int) < X1.length := by omega
        have hlt60' : (k : Int) < 60 := by omega
        have HT2 : Hid ((putM L a v).length = n) := by show _ = _; rw [put_len]; exact hin.out
        have hwa := wf_i64 hwf.1
        have hwv := hwf.2
        clear hwf
        have hT : (a < 0 ∧ inM L a = false) ∨ (0 ≤ a ∧ (n : Int) ≤ a ∧ inM L a = false) ∨ (0 ≤ a ∧ a < (n : Int) ∧ inM L a = true) := by
          have hLn := hin.out
          rcases Int.lt_or_le a 0 with h | h
          · exact .inl ⟨h, inM_no (.inl h)⟩
          · rcases Int.lt_or_le a n with h' | h'
            · exact .inr (.inr ⟨h, h', inM_yes h (by omega)⟩)
            · exact .inr (.inl ⟨h, h', inM_no (.inr (by omega))⟩)
        go_wp2_with fail
        have m2 := m.bel ((Bel.refl wr).alloc (Obj.cells #[Value.int IntKind.i64 a, Value.int IntKind.i64 v] 28))
        have hr2 := row_bel hrow ((Bel.refl wr).alloc (Obj.cells #[Value.int IntKind.i64 a, Value.int IntKind.i64 v] 28))
        have B2 := hB.alloc (Obj.cells #[Value.int IntKind.i64 a, Value.int IntKind.i64 v] 28)
        have hbx := heap_new wr (Obj.cells #[Value.int IntKind.i64 a, Value.int IntKind.i64 v] 28)
        have hgs := lt_of_heap m.row
        clear m hrow hB hc1 hc2
        generalize wr.alloc (Obj.cells #[Value.int IntKind.i64 a, Value.int IntKind.i64 v] 28) = W2 at *
        generalize wr.heap.size = p at *
        have d1 : W2.cell? ⟨p, 0, none⟩ = some (.int .i64 a) := cell_of hbx 0
        have d2 : W2.cell? ⟨p, 1, none⟩ = some (.int .i64 v) := cell_of hbx 1
        have Hbx : Hid _ := hbx
        clear hbx
        rcases hT with ⟨a1, hI⟩ | ⟨a1, a2, hI⟩ | ⟨a1, a2, hI⟩
        all_goals
          first | (have t1 : decide (a < (n : Int)) = false := by simp; omega) | skip
          first | (have t0 : decide (0 ≤ a) = false := by simp; omega) | skip
          have HI : Hid (inM L a = _) := hI
          clear hI
        · first | (go_region_with (first
            | (go_at_call 11; refine (store_bel m2 a v _ ?_).mono ?_; (first | exact Bel.refl _ | exact (Bel.refl _).drew); rintro e w3 ⟨rfl, m3, k3⟩; have B3 := bel_store B2 k3 (Nat.le_refl _); have hr3 := row_store hr2 k3 (Nat.lt_succ_self _); have hbx3 := k3.block p _ Hbx.out (by omega); have e1 : w3.cell? ⟨p, 0, none⟩ = some (.int .i64 a) := cell_of hbx3 0; have e2 : w3.cell? ⟨p, 1, none⟩ = some (.int .i64 v) := cell_of hbx3 1; have Hbx3 : Hid _ := hbx3; clear hbx3; rw [HI.out]))) | fail
          all_goals
            go_wp2_with (go_at_call 12; refine (stored_any _ L a v hwv _ (ints_of_row hr3) (by rw [hin.out]; omega)).mono ?_; rintro e w4 ⟨v4, rfl, r4, b4⟩)
            refine ⟨⟨k + 1, _, by omega, by simp, HT2, m3.bel b4, row_base r4 (by have := lt_of_heap m3.row; omega), btrans B3 b4⟩, ?_⟩
            simp only [intOf]
            omega
        · go_region_held (fun w' => w'.cell? ⟨p, 0, none⟩ = some (.int .i64 a) ∧ w'.cell? ⟨p, 1, none⟩ = some (.int .i64 v)) (go_keep) (first
            | (go_at_call 11; refine (store_bel m2 a v _ ?_).mono ?_; (first | exact Bel.refl _ | exact (Bel.refl _).drew); rintro e w3 ⟨rfl, m3, k3⟩; have B3 := bel_store B2 k3 (Nat.le_refl _); have hr3 := row_store hr2 k3 (Nat.lt_succ_self _); have hbx3 := k3.block p _ Hbx.out (by omega); have e1 : w3.cell? ⟨p, 0, none⟩ = some (.int .i64 a) := cell_of hbx3 0; have e2 : w3.cell? ⟨p, 1, none⟩ = some (.int .i64 v) := cell_of hbx3 1; have Hbx3 : Hid _ := hbx3; clear hbx3; rw [HI.out]))
          go_wp2_with (go_at_call 12; refine (stored_any _ L a v hwv _ (ints_of_row hr3) (by rw [hin.out]; omega)).mono ?_; rintro e w4 ⟨v4, rfl, r4, b4⟩)
          refine ⟨⟨k + 1, _, by omega, by simp, HT2, m3.bel b4, row_base r4 (by have := lt_of_heap m3.row; omega), btrans B3 b4⟩, ?_⟩
          simp only [intOf]
          omega
        · go_region_held (fun w' => w'.cell? ⟨p, 0, none⟩ = some (.int .i64 a) ∧ w'.cell? ⟨p, 1, none⟩ = some (.int .i64 v)) (go_keep) (first
            | (go_at_call 11; refine (store_bel m2 a v _ ?_).mono ?_; (first | exact Bel.refl _ | exact (Bel.refl _).drew); rintro e w3 ⟨rfl, m3, k3⟩; have B3 := bel_store B2 k3 (Nat.le_refl _); have hr3 := row_store hr2 k3 (Nat.lt_succ_self _); have hbx3 := k3.block p _ Hbx.out (by omega); have e1 : w3.cell? ⟨p, 0, none⟩ = some (.int .i64 a) := cell_of hbx3 0; have e2 : w3.cell? ⟨p, 1, none⟩ = some (.int .i64 v) := cell_of hbx3 1; have Hbx3 : Hid _ := hbx3; clear hbx3; rw [HI.out]))
          go_wp2_with (go_at_call 12; refine (stored_any _ L a v hwv _ (ints_of_row hr3) (by rw [hin.out]; omega)).mono ?_; rintro e w4 ⟨v4, rfl, r4, b4⟩)
          refine ⟨⟨k + 1, _, by omega, by simp, HT2, m3.bel b4, row_base r4 (by have := lt_of_heap m3.row; omega), btrans B3 b4⟩, ?_⟩
          simp only [intOf]
          omega
      · rcases (show X1.length ≤ k ∨ (k < X1.length ∧ 60 ≤ k) from by omega) with hge | ⟨hge, hge60⟩
        all_goals
          first | (have t1 : decide ((k : Int) < X1.length) = false := by simp; omega) | (have t1 : (k : Int) < X1.length := by omega)
          first | (have t2 : decide ((k : Int) < 60) = false := by simp; omega) | skip
          have hLn : Hid (L.length = n) := hin
          have hle : L.length ≤ 1000 := by rw [hin.out]; omega
          have hS : (x2 < 0 ∧ inM L x2 = false) ∨ (0 ≤ x2 ∧ (n : Int) ≤ x2 ∧ inM L x2 = false) ∨ (0 ≤ x2 ∧ x2 < (n : Int) ∧ inM L x2 = true) := by
            have hLn := hin.out
            rcases Int.lt_or_le x2 0 with h | h
            · exact .inl ⟨h, inM_no (.inl h)⟩
            · rcases Int.lt_or_le x2 n with h' | h'
              · exact .inr (.inr ⟨h, h', inM_yes h (by omega)⟩)
              · exact .inr (.inl ⟨h, h', inM_no (.inr (by omega))⟩)
          have hld := load_gen m x2
          obtain ⟨ao2, cap2, rfl, hv2⟩ := ints_of_row hrow
          have hrow2 : wr.ownsRow (w.heap.size + 1) 3 1 (.slice ao2 n cap2) L.length (L.map (Value.int .i64)) := by rw [← hin.out]; exact hrow
          rw [hin.out]
          clear hrow
          rcases hS with ⟨a1, hI⟩ | ⟨a1, a2, hI⟩ | ⟨a1, a2, hI⟩
          · rw [hI, get_no hI] at hld
            have HLd := hidm hld
            have s0 : decide (0 ≤ x2) = false := by simp; omega
            clear hI hld hv2
            go_wp2_with (first
              | (go_at_call 9; refine (awake_any _).mono ?_; rintro e w9 ⟨rfl, b9⟩)
              | (go_at_call 15; refine (same_any _ _ _ _ _ (ints_of_row r7) i8 (by rw [List.length_take]; omega)).mono ?_; rintro e w8 ⟨rfl, b8⟩; obtain rfl := endAt_one hE7 hE8; rw [sameB_self])
              | (go_at_call 18; refine (refUsed_row hrow7 hle).mono ?_; rintro e w' ⟨d8, v8, rfl, hE8, i8, e'⟩; subst e')
              | (go_at_call 17; refine (used_any m6 (by omega)).mono ?_; rintro e w7 ⟨d7, v7, hE7, rfl, r7, b7⟩; have hrow7 := row_bel hrow6 b7)
              | (go_at_call 15; refine (same_any _ _ _ _ _ (ints_of_row r5) (ints_of_row hrow5) (by omega)).mono ?_; rintro e w6 ⟨rfl, b6⟩; rw [sameB_self]; have m6 := m5.bel b6; have hrow6 := row_bel hrow5 b6)
              | (go_at_call 16; refine (words_any m (by omega)).mono ?_; rintro e w5 ⟨v5, rfl, r5, b5⟩; have m5 := m.bel b5; have hrow5 := row_bel hrow2 b5)
              | (go_at_call 14; refine (len_any m).mono ?_; rintro e w' ⟨rfl, e'⟩; subst e'; rw [hLn.out])
              | (go_at_call 13; refine HLd.out.mono ?_; rintro e w' ⟨rfl, e'⟩; subst e'))
            go_ret
            exact ⟨rfl, btrans (btrans (btrans (btrans (btrans hB b5) b6) b7) b8) b9⟩
          · rw [hI, get_no hI] at hld
            have HLd := hidm hld
            have s1 : decide (x2 < (n : Int)) = false := by simp; omega
            clear hI hld hv2
            go_wp2_with (first
              | (go_at_call 9; refine (awake_any _).mono ?_; rintro e w9 ⟨rfl, b9⟩)
              | (go_at_call 15; refine (same_any _ _ _ _ _ (ints_of_row r7) i8 (by rw [List.length_take]; omega)).mono ?_; rintro e w8 ⟨rfl, b8⟩; obtain rfl := endAt_one hE7 hE8; rw [sameB_self])
              | (go_at_call 18; refine (refUsed_row hrow7 hle).mono ?_; rintro e w' ⟨d8, v8, rfl, hE8, i8, e'⟩; subst e')
              | (go_at_call 17; refine (used_any m6 (by omega)).mono ?_; rintro e w7 ⟨d7, v7, hE7, rfl, r7, b7⟩; have hrow7 := row_bel hrow6 b7)
              | (go_at_call 15; refine (same_any _ _ _ _ _ (ints_of_row r5) (ints_of_row hrow5) (by omega)).mono ?_; rintro e w6 ⟨rfl, b6⟩; rw [sameB_self]; have m6 := m5.bel b6; have hrow6 := row_bel hrow5 b6)
              | (go_at_call 16; refine (words_any m (by omega)).mono ?_; rintro e w5 ⟨v5, rfl, r5, b5⟩; have m5 := m.bel b5; have hrow5 := row_bel hrow2 b5)
              | (go_at_call 14; refine (len_any m).mono ?_; rintro e w' ⟨rfl, e'⟩; subst e'; rw [hLn.out])
              | (go_at_call 13; refine HLd.out.mono ?_; rintro e w' ⟨rfl, e'⟩; subst e'))
            go_ret
            exact ⟨rfl, btrans (btrans (btrans (btrans (btrans hB b5) b6) b7) b8) b9⟩
          · obtain ⟨q, rfl⟩ : ∃ q : Nat, x2 = q := ⟨x2.toNat, by omega⟩
            have hqL : q < L.length := by rw [hin.out]; omega
            obtain ⟨b2, o2, rfl, hb2, hc2⟩ := hv2 (by omega)
            have hcq := hc2 q hqL
            rw [get_nat hqL] at hcq
            rw [hI] at hld
            generalize getM L (q : Int) = V at hcq hld
            have HLd := hidm hld
            have hqL' : (q : Int) < n := by omega
            clear hI hld hc2
            go_wp2_with (first
              | (go_at_call 9; refine (awake_any _).mono ?_; rintro e w9 ⟨rfl, b9⟩)
              | (go_at_call 15; refine (same_any _ _ _ _ _ (ints_of_row r7) i8 (by rw [List.length_take]; omega)).mono ?_; rintro e w8 ⟨rfl, b8⟩; obtain rfl := endAt_one hE7 hE8; rw [sameB_self])
              | (go_at_call 18; refine (refUsed_row hrow7 hle).mono ?_; rintro e w' ⟨d8, v8, rfl, hE8, i8, e'⟩; subst e')
              | (go_at_call 17; refine (used_any m6 (by omega)).mono ?_; rintro e w7 ⟨d7, v7, hE7, rfl, r7, b7⟩; have hrow7 := row_bel hrow6 b7)
              | (go_at_call 15; refine (same_any _ _ _ _ _ (ints_of_row r5) (ints_of_row hrow5) (by omega)).mono ?_; rintro e w6 ⟨rfl, b6⟩; rw [sameB_self]; have m6 := m5.bel b6; have hrow6 := row_bel hrow5 b6)
              | (go_at_call 16; refine (words_any m (by omega)).mono ?_; rintro e w5 ⟨v5, rfl, r5, b5⟩; have m5 := m.bel b5; have hrow5 := row_bel hrow2 b5)
              | (go_at_call 14; refine (len_any m).mono ?_; rintro e w' ⟨rfl, e'⟩; subst e'; rw [hLn.out])
              | (go_at_call 13; refine HLd.out.mono ?_; rintro e w' ⟨rfl, e'⟩; subst e'))
            go_ret
            exact ⟨rfl, btrans (btrans (btrans (btrans (btrans hB b5) b6) b7) b8) b9⟩

set_option maxRecDepth 100000 in
theorem lifted (os : Os) (started : os.Started) (H : Type) (enc : TypeId × Value → H) :
    ReturnsInHanded {} Try.checked os 3 .any (Rows.cellsPlaysSpec.pre6 enc Try.prog Try.f3 Rows.cellsPlaysRow.domain false) (Rows.cellsPlaysSpec.post enc Try.prog Try.f3 false true false false) := by
  refine returnsInHanded_of_change (C := Try.checked) own started (by kernel_rfl) Try.func3
    (ChangeSpec.witness6 (enc := enc) (C := Try.checked) false ⟨#[], #[.int .i64 0, .slice none 0 0, .int .i64 0], []⟩ 8 (by kernel_rfl) (by kernel_rfl) (by kernel_rfl) (by kernel_rfl)) ?_
  intro W base args ds gs before hval0 hW hcnd _
  have hval : ∀ (j : Nat) t v, Try.f3.params[j]? = some t → args[j]? = some v → Value.okWide Try.prog W .any base t v := hval0
  have hW' := hW
  obtain ⟨p, q, hA0, hV, rfl, hfz, hnd⟩ := hW
  have hA : DataW.TrodAll enc Try.prog W 0 (fun _ => true) true Try.f3.params.toList args.toList ds p := hA0
  rw [Try.params3] at hA hval
  obtain ⟨v0, vs0, d0, ds0, p0, q0, hargs, rfl, rfl, h0, r0⟩ := trodAll_cons hA
  obtain ⟨v1, vs1, d1, ds1, p1, q1, rfl, rfl, rfl, h1, r1⟩ := trodAll_cons r0
  obtain ⟨v2, vs2, d2, ds2, p2, q2, rfl, rfl, rfl, h2, r2⟩ := trodAll_cons r1
  obtain ⟨rfl, rfl, rfl⟩ := trodAll_nil r2
  obtain rfl : args = #[v0, v1, v2] := by cases args; simp_all
  obtain ⟨rfl, rfl⟩ := trodVars_none hV
  obtain ⟨x0, rfl, rfl, rfl, wx0⟩ := open_int Try.underlying3 (hval 0 3 v0 rfl rfl) h0
  have k1 := h1
  have lt1 : ∀ x ∈ p1, x.block < W.heap.size := by obtain ⟨m, hm⟩ := k1; exact DataW.trod_lt m _ _ _ hm
  obtain ⟨X1, wy1, vy1⟩ := open_acts (hval 1 22 v1 rfl rfl) h1
  obtain ⟨x2, rfl, rfl, rfl, wx2⟩ := open_int Try.underlying3 (hval 2 3 v2 rfl rfl) h2
  clear hA0 hval0
  refine (walk W x0 wx0 v1 X1 wy1 vy1 x2 wx2).mono fun e W' ⟨he, bel⟩ => ?_
  subst he
  exact ⟨_, rfl, _, _, _, [], _, [], hW', trodAll_mk1 (shut_bool Try.underlying4 _), (trodAll_cons_mk (shut_int Try.underlying3 wx0) (trodAll_cons_mk (Below.trod laidOut (by kernel_rfl) (of_decide_eq_true (by kernel_rfl)) k1 bel.out lt1) (trodAll_cons_mk (shut_int Try.underlying3 wx2) trodAll_mk0))), rfl, bel.out.frame _, fun h => by cases h⟩

theorem over : Rows.cellsPlaysRow.holds Try.pinned (OpenSpec.ofChange Rows.cellsPlaysSpec) :=
  OpenClaim.holds_of_wide 3 Try.f3 rfl rfl rfl rfl rfl rfl rfl ⟨rfl, rfl, rfl, rfl, rfl⟩ rfl rfl rfl rfl rfl (by kernel_rfl) Try.func3 (by kernel_rfl)
    (of_decide_eq_true (by kernel_rfl)) (by unfold Func.isWrapper; first | (rw [if_pos (by decide +kernel)]; kernel_rfl) | (rw [if_neg (by decide +kernel)]; exact ⟨rfl, rfl⟩))
    (fun os started H enc _ => lifted os started H enc)

theorem proved : Rows.CellsPlaysSaid :=
  over
#print axioms proved
end Go.Proofs.Ytpmjkdhnoknhlaa.cellsPlays
