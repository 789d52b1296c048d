/-
  CellsUsed: what is used is a beginning of all cells that ends with none that is 0; all behind it are 0.
  Conditions: none.
-/
import Derived.Test.YtpmjkdhnoknhlaaRows
import Derived.WalkKit
import Derived.ProofKit
import Derived.OpenShut
import Derived.ShutString
import Derived.ChangeOld
import Derived.Below
import Derived.Carry
import Derived.Test.YtpmjkdhnoknhlaaGen6
namespace Go.Proofs.Ytpmjkdhnoknhlaa.cellsUsed
open Go.ChangeShapes Go.WideShapes Go.ChangeAt Go.RowKit
open Go.ChangeMaps (open_string shut_string)
set_option linter.unusedVariables false

theorem laidOut : laidOutB Try.prog = true := by kernel_rfl
theorem own : ownKnob Try.prog.godebug = none := by kernel_rfl
theorem hidm {p : Prop} (h : p) : Hid p := h

set_option maxRecDepth 20000 in
set_option maxHeartbeats 2000000 in
theorem walk (w : World) (x0 : Int) (wx0 : (Lit.int .u16 x0).wf = true) (y1 : Value) (X1 : List (Int × Int)) (wy1 : Acts w y1 X1) (vy1 : ∀ x ∈ X1, (Lit.int .i64 x.1).wf = true ∧ (Lit.int .i64 x.2).wf = true) :
    Calls Try.prog 6 #[.int .u16 x0, y1] w fun e w' => e = .returned (.bool true) ∧ Bel w w' := by
  have hx0 := wf_u16 wx0
  obtain ⟨ao, cap, rfl, hv⟩ := wy1
  obtain ⟨n, hn⟩ : ∃ n : Nat, x0 % 301 = n := ⟨(x0 % 301).toNat, by omega⟩
  have hn301 : n < 301 := by omega
  have hL : (List.replicate n (0 : Int)).length = n := List.length_replicate
  have hnew := fun W => new_any n n rfl (by omega) W
  generalize List.replicate n (0 : Int) = L0 at hL hnew
  have HN : Hid (∀ W, Calls Try.prog 10 #[.int .i64 (n : Int)] W fun e w' => e = .returned (.pointer (some ⟨W.heap.size + 1, 0, none⟩)) ∧ IsM W.heap.size w' (W.heap.size + 1) W.heap.size L0 ∧ Bel W w') := hnew
  have HL0 : Hid (L0.length = n) := hL
  clear hnew hL
  go_enter Try.func6, Try.ntmps6
  go_wp2_with (go_at_call 10; refine (HN.out _).mono ?_; rintro e w1 ⟨rfl, m1, B1⟩)
  go_loopw [6] (fun i wr => ∃ (k : Nat) (L : List Int), k ≤ 60 ∧ i = .int .i64 k ∧ Hid (L.length = n) ∧ IsM w.heap.size wr (w.heap.size + 1) w.heap.size L ∧ Bel w wr) (fun i _ => 60 - (intOf i).toNat)
  case atStart => exact ⟨0, L0, Nat.zero_le _, rfl, HL0, m1, B1⟩
  case round =>
    clear m1 B1
    obtain ⟨k, L, hk, rfl, hin, m, hB⟩ := hrel
    by_cases hlt : k < X1.length ∧ k < 60
    · obtain ⟨hlt, hlt60⟩ := hlt
      obtain ⟨b, o, rfl, hb, hc⟩ := hv (by omega)
      have hc1 := ((bcell hB).1 b (o + k * 2) hb).trans (hc k hlt).1
      have hc2 := ((bcell hB).1 b (o + k * 2 + 1) hb).trans (hc k hlt).2
      have hw1 := (hc k hlt).1
      have hw2 := (hc k hlt).2
      clear hc hv vy1
      generalize X1[k]?.getD (0, 0) = q at hc1 hc2 hw1 hw2
      obtain ⟨a, v⟩ := q
      simp only at hc1 hc2 hw1 hw2
      have Hw1 : Hid _ := hw1
      have Hw2 : Hid _ := hw2
      clear hw1 hw2
      have hlt' : (k : Int) < X1.length := by omega
      have hlt60' : (k : Int) < 60 := by omega
      have HT2 : Hid ((putM L a v).length = n) := by show _ = _; rw [put_len]; exact hin.out
      go_wp2_with fail
      go_region_held (fun w' => w'.cell? ⟨b, o + k * 2, none⟩ = some (.int .i64 a) ∧ w'.cell? ⟨b, o + k * 2 + 1, none⟩ = some (.int .i64 v)) (go_keep) (first
        | (go_at_call 11; refine (store_bel m a v _ ?_).mono ?_; (first | exact Bel.refl _ | exact (Bel.refl _).drew); rintro e w3 ⟨rfl, m3, k3⟩; have B3 := bel_store hB k3 (Nat.le_refl _); have hd1 := ((bcell B3).1 b (o + k * 2) hb).trans Hw1.out; have hd2 := ((bcell B3).1 b (o + k * 2 + 1) hb).trans Hw2.out))
      go_wp2
      refine ⟨⟨k + 1, _, by omega, by simp, HT2, m3, B3⟩, ?_⟩
      simp only [intOf]
      omega
    · rcases (show X1.length ≤ k ∨ (k < X1.length ∧ 60 ≤ k) from by omega) with hge | ⟨hge, hge60⟩
      all_goals
        first | (have u1 : decide ((k : Int) < X1.length) = false := by simp; omega) | (have u1 : (k : Int) < X1.length := by omega)
        first | (have u2 : decide ((k : Int) < 60) = false := by simp; omega) | skip
        go_wp2_with (first
          | (go_at_call 17; refine (used_any m2 (by rw [hin.out]; omega)).mono ?_; rintro e w3 ⟨d, v3, hE, rfl, r3, b3⟩; refine Hid.out ?_)
          | (go_at_call 16; refine (words_any m (by rw [hin.out]; omega)).mono ?_; rintro e w2 ⟨v2, rfl, r2, b2⟩; have m2 := m.bel b2; have B2 := btrans hB b2))
        have B3 := btrans B2 b3
        obtain ⟨ao2, cap2, rfl, hv2⟩ := ints_of_row (row_bel r2 b3)
        obtain ⟨ao3, cap3, rfl, hv3⟩ := ints_of_row r3
        have hLn := hin.out
        have hdL := hE.1
        have hlT : (L.take d).length = d := by rw [List.length_take]; omega
        rw [hlT] at hv3 ⊢
        rw [hLn] at hv2 hdL ⊢
        have H2 : Hid (∀ j, j < n → ∃ b o, ao2 = some ⟨b, o, none⟩ ∧ w3.cell? ⟨b, o + j, none⟩ = some (.int .i64 (L[j]?.getD 0))) := fun j hj => by
          obtain ⟨b, o, e, _, hc⟩ := hv2 (by omega)
          exact ⟨b, o, e, hc j hj⟩
        have H3 : Hid (∀ j, j < d → ∃ b o, ao3 = some ⟨b, o, none⟩ ∧ w3.cell? ⟨b, o + j, none⟩ = some (.int .i64 (L[j]?.getD 0))) := fun j hj => by
          obtain ⟨b, o, e, _, hc⟩ := hv3 (by omega)
          refine ⟨b, o, e, (hc j hj).trans ?_⟩
          rw [List.getElem?_take, if_pos hj]
        have HZ : Hid (∀ j, d ≤ j → j < n → L[j]?.getD 0 = 0) := fun j h1 h2 => hE.2.1 j h1 (by omega)
        have HE : Hid (d = 0 ∨ L[d - 1]?.getD 0 ≠ 0) := hE.2.2
        have dn1 : decide ((n : Int) < (d : Int)) = false := by simp; omega
        clear hE hLn hlT hv2 hv3 r2 r3 b2 b3 m m2 hB B2 hin hv vy1
        clear u1
        first | clear u2 | skip
        rcases Nat.eq_zero_or_pos d with rfl | hd
        · refine hidm ?_
          go_wp2
          go_loop [70] (fun i => ∃ j : Nat, j ≤ n ∧ i = .int .i64 j) (fun i => n - (intOf i).toNat)
          case atStart => exact ⟨0, Nat.zero_le _, rfl⟩
          case round =>
            obtain ⟨j, hj, rfl⟩ := hrel
            by_cases hlt : j < n
            · obtain ⟨b2, o2, rfl, hc2⟩ := H2.out j hlt
              have hlt' : (j : Int) < n := by omega
              rw [HZ.out j (Nat.zero_le _) hlt] at hc2
              have hj0 : decide ((j : Int) < 0) = false := by simp
              go_wp2
              go_round
              case rel => exact ⟨j + 1, by omega, by simp⟩
              case measure => simp [intOf]; omega
            · have hlt' : ¬ ((j : Int) < n) := by omega
              go_wp2_with (go_at_call 9; refine (awake_any _).mono ?_; rintro e w9 ⟨rfl, b9⟩)
              go_ret
              exact ⟨rfl, btrans B3 b9⟩
        · obtain ⟨c, rfl⟩ : ∃ c, d = c + 1 := ⟨d - 1, by omega⟩
          obtain ⟨b, o, rfl, hcl⟩ := H3.out c (by omega)
          have hx : (L[c]?.getD 0 == 0) = false := by
            rcases HE.out with e | e
            · omega
            · simpa using e
          generalize L[c]?.getD 0 = x at hcl hx
          refine hidm ?_
          go_wp2
          go_loop [70] (fun i => ∃ j : Nat, j ≤ n ∧ i = .int .i64 j) (fun i => n - (intOf i).toNat)
          case atStart => exact ⟨0, Nat.zero_le _, rfl⟩
          case round =>
            obtain ⟨j, hj, rfl⟩ := hrel
            by_cases hlt : j < n
            · obtain ⟨b2, o2, rfl, hc2⟩ := H2.out j hlt
              have hlt' : (j : Int) < n := by omega
              by_cases hjc : j < c + 1
              · obtain ⟨b3, o3, e3, hc3⟩ := H3.out j hjc
                injection e3 with e3
                injection e3 with e4 e5 _
                subst e4
                subst e5
                generalize L[j]?.getD 0 = z at hc2 hc3
                have hj1 : (j : Int) < (c : Int) + 1 := by omega
                go_wp2
                go_round
                case rel => exact ⟨j + 1, by omega, by simp⟩
                case measure => simp [intOf]; omega
              · rw [HZ.out j (by omega) hlt] at hc2
                have hj1 : decide ((j : Int) < (c : Int) + 1) = false := by simp; omega
                have hj2 : (c : Int) + 1 ≤ j := by omega
                go_wp2
                go_round
                case rel => exact ⟨j + 1, by omega, by simp⟩
                case measure => simp [intOf]; omega
            · have hlt' : ¬ ((j : Int) < n) := by omega
              go_wp2_with (go_at_call 9; refine (awake_any _).mono ?_; rintro e w9 ⟨rfl, b9⟩)
              go_ret
              exact ⟨rfl, btrans B3 b9⟩

set_option maxRecDepth 100000 in
theorem lifted (os : Os) (started : os.Started) (H : Type) (enc : TypeId × Value → H) :
    ReturnsInHanded {} Try.checked os 6 .any (Rows.cellsUsedSpec.pre6 enc Try.prog Try.f6 Rows.cellsUsedRow.domain false) (Rows.cellsUsedSpec.post enc Try.prog Try.f6 false true false false) := by
  refine returnsInHanded_of_change (C := Try.checked) own started (by kernel_rfl) Try.func6
    (ChangeSpec.witness6 (enc := enc) (C := Try.checked) false ⟨#[], #[.int .u16 0, .slice none 0 0], []⟩ 8 (by kernel_rfl) (by kernel_rfl) (by kernel_rfl) (by kernel_rfl)) ?_
  intro W base args ds gs before hval0 hW hcnd _
  have hval : ∀ (j : Nat) t v, Try.f6.params[j]? = some t → args[j]? = some v → Value.okWide Try.prog W .any base t v := hval0
  have hW' := hW
  obtain ⟨p, q, hA0, hV, rfl, hfz, hnd⟩ := hW
  have hA : DataW.TrodAll enc Try.prog W 0 (fun _ => true) true Try.f6.params.toList args.toList ds p := hA0
  rw [Try.params6] at hA hval
  obtain ⟨v0, vs0, d0, ds0, p0, q0, hargs, rfl, rfl, h0, r0⟩ := trodAll_cons hA
  obtain ⟨v1, vs1, d1, ds1, p1, q1, rfl, rfl, rfl, h1, r1⟩ := trodAll_cons r0
  obtain ⟨rfl, rfl, rfl⟩ := trodAll_nil r1
  obtain rfl : args = #[v0, v1] := by cases args; simp_all
  obtain ⟨rfl, rfl⟩ := trodVars_none hV
  obtain ⟨x0, rfl, rfl, rfl, wx0⟩ := open_int Try.underlying38 (hval 0 38 v0 rfl rfl) h0
  have k1 := h1
  have lt1 : ∀ x ∈ p1, x.block < W.heap.size := by obtain ⟨m, hm⟩ := k1; exact DataW.trod_lt m _ _ _ hm
  obtain ⟨X1, wy1, vy1⟩ := open_acts (hval 1 22 v1 rfl rfl) h1
  clear hA0 hval0
  refine (walk W x0 wx0 v1 X1 wy1 vy1).mono fun e W' ⟨he, bel⟩ => ?_
  subst he
  exact ⟨_, rfl, _, _, _, [], _, [], hW', trodAll_mk1 (shut_bool Try.underlying4 _), (trodAll_cons_mk (shut_int Try.underlying38 wx0) (trodAll_cons_mk (Below.trod laidOut (by kernel_rfl) (of_decide_eq_true (by kernel_rfl)) k1 bel.out lt1) trodAll_mk0)), rfl, bel.out.frame _, fun h => by cases h⟩

theorem over : Rows.cellsUsedRow.holds Try.pinned (OpenSpec.ofChange Rows.cellsUsedSpec) :=
  OpenClaim.holds_of_wide 6 Try.f6 rfl rfl rfl rfl rfl rfl rfl ⟨rfl, rfl, rfl, rfl, rfl⟩ rfl rfl rfl rfl rfl (by kernel_rfl) Try.func6 (by kernel_rfl)
    (of_decide_eq_true (by kernel_rfl)) (by unfold Func.isWrapper; first | (rw [if_pos (by decide +kernel)]; kernel_rfl) | (rw [if_neg (by decide +kernel)]; exact ⟨rfl, rfl⟩))
    (fun os started H enc _ => lifted os started H enc)

theorem proved : Rows.CellsUsedSaid :=
  over
#print axioms proved
end Go.Proofs.Ytpmjkdhnoknhlaa.cellsUsed
