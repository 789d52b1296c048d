/-
  The reference of layer 11: Order.
-/
import Derived.Test.YtpmofaajkhllpaaRf11
import Derived.Test.YtpmofaajkhllpaaRh10
namespace Go.Proofs.Ytpmofaajkhllpaa
set_option maxRecDepth 20000
set_option linter.unusedVariables false
open Go.ChangeShapes Go.WideShapes Go.ChangeAt Go.RowKit

/-- The best one of those from a place on. -/
def BestK (X : List Ins) (Z : List Int) (k : Nat) (x : Int) : Prop :=
  (x = -1 ∧ ∀ j, k ≤ j → j < X.length → readyB X Z j = false) ∨ ∃ j : Nat, x = j ∧ k ≤ j ∧ j < X.length ∧ readyB X Z j = true ∧ ∀ i, k ≤ i → i < X.length → readyB X Z i = true → le2 ((j : Int), hAt X j) ((i : Int), hAt X i)
theorem bestK_start (X : List Ins) (Z : List Int) : BestK X Z X.length (-1) := .inl ⟨rfl, fun j h1 h2 => by omega⟩
theorem bestK_bd {X : List Ins} {Z : List Int} {k : Nat} {x : Int} (h : BestK X Z k x) : x = -1 ∨ ∃ b : Nat, x = b ∧ b < X.length := by
  rcases h with ⟨h, _⟩ | ⟨j, h, _, h2, _⟩
  · exact .inl h
  · exact .inr ⟨j, h, h2⟩
theorem bestK_no {X : List Ins} {Z : List Int} {j : Nat} {x : Int} (h : BestK X Z (j + 1) x) (hr : readyB X Z j = false) : BestK X Z j x := by
  rcases h with ⟨h1, h2⟩ | ⟨b, h1, h2, h3, h4, h5⟩
  · refine .inl ⟨h1, fun i hi hX => ?_⟩
    by_cases e : i = j
    · subst e; exact hr
    · exact h2 i (by omega) hX
  · refine .inr ⟨b, h1, by omega, h3, h4, fun i hi hX hy => ?_⟩
    by_cases e : i = j
    · subst e; rw [hr] at hy; cases hy
    · exact h5 i (by omega) hX hy
theorem bestK_first {X : List Ins} {Z : List Int} {j : Nat} (h : BestK X Z (j + 1) (-1)) (hj : j < X.length) (hr : readyB X Z j = true) : BestK X Z j j := by
  rcases h with ⟨h1, h2⟩ | ⟨b, h1, h2, h3, h4, h5⟩
  · refine .inr ⟨j, rfl, Nat.le_refl _, hj, hr, fun i hi hX hy => ?_⟩
    by_cases e : i = j
    · subst e; exact le2_refl _
    · rw [h2 i (by omega) hX] at hy; cases hy
  · omega
theorem bestK_new {X : List Ins} {Z : List Int} {j b : Nat} (h : BestK X Z (j + 1) b) (hj : j < X.length) (hr : readyB X Z j = true) (hh : hAt X b ≤ hAt X j) : BestK X Z j j := by
  rcases h with ⟨h1, h2⟩ | ⟨b', h1, h2, h3, h4, h5⟩
  · omega
  · obtain rfl : b = b' := by omega
    refine .inr ⟨j, rfl, Nat.le_refl _, hj, hr, fun i hi hX hy => ?_⟩
    by_cases e : i = j
    · subst e; exact le2_refl _
    · have := h5 i (by omega) hX hy
      unfold le2 at *
      simp only at *
      omega
theorem bestK_old {X : List Ins} {Z : List Int} {j b : Nat} (h : BestK X Z (j + 1) b) (hj : j < X.length) (hh : ¬ hAt X b ≤ hAt X j) : BestK X Z j b := by
  rcases h with ⟨h1, h2⟩ | ⟨b', h1, h2, h3, h4, h5⟩
  · omega
  · obtain rfl : b = b' := by omega
    refine .inr ⟨b, rfl, by omega, h3, h4, fun i hi hX hy => ?_⟩
    by_cases e : i = j
    · subst e
      unfold le2
      simp only
      omega
    · exact h5 i (by omega) hX hy
theorem bestK_best {X : List Ins} {Z : List Int} {x : Int} (h : BestK X Z 0 x) : BestP X Z x := by
  rcases h with ⟨h1, h2⟩ | ⟨j, h1, h2, h3, h4, h5⟩
  · refine .inl ⟨h1, fun j hj q => ?_⟩
    have := h2 j (Nat.zero_le _) hj
    rw [(readyB_iff X Z j).2 q] at this
    cases this
  · exact .inr ⟨j, h1, h3, (readyB_iff X Z j).1 h4, fun k hk q => h5 k (Nat.zero_le _) hk ((readyB_iff X Z k).2 q)⟩

set_option maxHeartbeats 4000000 in
theorem refOrder_any (X : List Ins) (v : Value) (w : World) (hX : X.length ≤ 1000) (hv : Code w v X) :
    Calls Try.prog 13 #[v] w fun e W' => ∃ v' Z, e = .returned v' ∧ OrdS X Z ∧ OwnI w.heap.size W' v' Z ∧ Bel w W' := by
  have hH := refHeights_any X v w hX hv
  have HV := hidm hv
  obtain ⟨ao, cap, rfl, _⟩ := hv
  obtain ⟨i0, hi, hz0, hz1, hz2⟩ := info_parts intInfo
  go_enter Try.func13, Try.ntmps13
  go_wp2_with (go_at_call 23; refine hH.mono ?_; rintro e w1 ⟨g, c, rfl, hg0, hgw, hB⟩)
  have hgl := lt_of_heap hgw
  have HGC := hidm (fun j (hj : j < X.length) => show w1.cell? ⟨g, j, none⟩ = some (.int .i64 (hAt X j)) from int_cell hgw j hj)
  clear hH hgw
  go_loopw [4, 5] (fun o s wr => ∃ Z : List Int, s = .int .i64 (cnt Z) ∧ Steps X Z ∧ OwnI w1.heap.size wr o Z ∧ Bel w1 wr) (fun o _ _ => 2 * X.length - lenOf o)
  case atStart => exact ⟨[], rfl, .nil, ownI_nil _ _, Bel.refl _⟩
  case round =>
    obtain ⟨Z, rfl, hst, hO, hBr⟩ := hrel
    rename World => wr
    obtain ⟨ao2, cap2, q⟩ := ownI_form hO
    subst q
    have hcnt := (steps_cnt hst).1
    have hzl := (steps_len hst).1
    by_cases hlt : cnt Z < X.length
    · have hna := cnt_na hst hlt
      have hfin := (steps_fin hst hna).2
      have hrdy := fun i (hi : i < X.length) (q : Later wr) => refReady_any X Z i (.slice ao X.length cap) (.slice ao2 Z.length cap2) q.at_ hX (by omega) hi (code_bel HV.out (btrans hB (btrans hBr q.is_))) ((own_ints hO).bel q.is_)
      have HNA := hidm hna
      have HST := hidm hst
      have HO := hidm hO
      have HBR := hidm hBr
      have hwr := hBr.size
      have hgr : g < wr.heap.size := by omega
      have hcells := fun j hj => later_cell (((bcell HBR.out).1 g j hgl).trans (HGC.out j hj)) hgr
      have HCE := hidm hcells
      clear hna hst hO hBr hcells HGC HV
      go_wp2
      haveI := Later.ne wr
      obtain ⟨u1, eu⟩ := later_start wr
      rw [← eu]
      clear eu
      go_loopw [6, 7] (fun x j wi => ∃ (k : Nat) (y : Int) (q : Later wr), k ≤ X.length ∧ j = .int .i64 ((k : Int) - 1) ∧ x = .int .i64 y ∧ Hid (BestK X Z k y) ∧ wi = q.at_) (fun _ j _ => (intOf j + 1).toNat)
      case atStart => exact ⟨X.length, -1, _, Nat.le_refl _, rfl, rfl, bestK_start _ _, rfl⟩
      case round =>
        obtain ⟨k, y, q, hk, rfl, rfl, hbk, rfl⟩ := hrel
        by_cases h0 : 0 < k
        · obtain ⟨i, rfl⟩ : ∃ m, k = m + 1 := ⟨k - 1, by omega⟩
          have e1 : ((i + 1 : Nat) : Int) - 1 = i := by omega
          rw [e1]
          have hrd := hrdy i (by omega)
          have hiI : (i : Int) < X.length := by omega
          have ci := HCE.out i (by omega)
          clear hrdy e1
          cases hr : readyB X Z i with
          | false =>
            rw [hr] at hrd
            have HH := hidm (bestK_no hbk.out hr)
            clear hr hbk HCE
            go_wp2
            refine wp_region_later (by kernel_rfl) (by kernel_rfl) ?_
            repeat (go_big_quiet_step (first | (go_at_call 24; exact later_of (hrd _))))
            refine wpQuiet_nil ?_
            rintro _ ⟨q2, rfl⟩
            go_wp2
            go_roundw
            case rel => exact ⟨i, y, q2, by omega, rfl, rfl, HH.out, rfl⟩
            case measure => simp [intOf] <;> omega
          | true =>
            rw [hr] at hrd
            rcases bestK_bd hbk.out with rfl | ⟨b, rfl, hb⟩
            · have HH := hidm (bestK_first hbk.out (by omega) hr)
              clear hr hbk HCE
              go_wp2
              refine wp_region_later (by kernel_rfl) (by kernel_rfl) ?_
              repeat (go_big_quiet_step (first | (go_at_call 24; exact later_of (hrd _))))
              refine wpQuiet_nil ?_
              rintro _ ⟨q2, rfl⟩
              go_wp2
              go_roundw
              case rel => exact ⟨i, i, q2, by omega, rfl, rfl, HH.out, rfl⟩
              case measure => simp [intOf] <;> omega
            · have cb := HCE.out b hb
              have hbI : (b : Int) < X.length := by omega
              have hbd : decide ((b : Int) < 0) = false := decide_eq_false (by omega)
              have S1 := hidm (fun h => bestK_new hbk.out (show i < X.length by omega) hr h)
              have S2 := hidm (fun h => bestK_old hbk.out (show i < X.length by omega) h)
              clear hr hbk HCE
              generalize hAt X i = hi1 at ci S1 S2
              generalize hAt X b = hb1 at cb S1 S2
              by_cases hh : hb1 ≤ hi1
              · have HH := hidm (S1.out hh)
                have hh2 : hi1 ≥ hb1 := hh
                clear S1 S2
                go_wp2
                refine wp_region_later (by kernel_rfl) (by kernel_rfl) ?_
                repeat (go_big_quiet_step (first | (go_at_call 24; exact later_of (hrd _))))
                refine wpQuiet_nil ?_
                rintro _ ⟨q2, rfl⟩
                go_wp2
                go_roundw
                case rel => exact ⟨i, i, q2, by omega, rfl, rfl, HH.out, rfl⟩
                case measure => simp [intOf] <;> omega
              · have HH := hidm (S2.out hh)
                have hh2 : ¬ hi1 ≥ hb1 := hh
                clear S1 S2
                go_wp2
                refine wp_region_later (by kernel_rfl) (by kernel_rfl) ?_
                repeat (go_big_quiet_step (first | (go_at_call 24; exact later_of (hrd _))))
                refine wpQuiet_nil ?_
                rintro _ ⟨q2, rfl⟩
                go_wp2
                go_roundw
                case rel => exact ⟨i, b, q2, by omega, rfl, rfl, HH.out, rfl⟩
                case measure => simp [intOf] <;> omega
        · obtain rfl : k = 0 := by omega
          have HBE := hidm (bestK_best hbk.out)
          have b3 := q.is_
          have HO3 := hidm (ownI_kept HO.out (Kept.of_bel (S := fun _ _ => False) b3) (fun _ _ _ _ s => s))
          clear hbk hrdy HCE
          generalize q.at_ = w3 at b3 HO3 ⊢
          have hs3 := b3.size
          go_wp2_with (at_builtin; refine wpList_append_lies _ rfl (.tmp 41) (.tmp 43) 25 rfl w1.heap.size 3 i0 _ 1 8 Try.underlying25 hi hz0 hz1 hz2 rfl (by decide) _ _ _ rfl (HO3.out.alloc _) ⟨w3.heap.size, 0, none⟩ 1 1 [.int .i64 y] rfl rfl (cell_one_new _ _ _) (by intro u hu; simp at hu; subst hu; rfl) (by omega) (by unfold maxLen; omega) (by omega) (by simp; omega) (w3.heap.size + 1) (by simp) ?_; intro gg cap1 w4 hown1 hgrow hat hlt1)
          all_goals
            have hO4 : OwnI w1.heap.size w4 (.slice (some ⟨gg, 0, none⟩) (Z.length + 1) cap1) (Z ++ [y]) := by
              unfold OwnI
              rw [List.length_append, List.map_append]
              exact hown1
            have hB4 : Bel w1 w4 := ((btrans HBR.out b3).alloc _).grown hgrow (fun k e => (ownI_block HO3.out k e).1)
            have hc := cnt_snoc Z y
            have hst4 := Steps.snoc HST.out HNA.out HBE.out
            go_roundw
            case rel =>
              by_cases hx : y = -1
              · first
                  | exact ⟨Z ++ [y], by rw [hc, if_pos hx]; rfl, hst4, hO4, hB4⟩
                  | (exfalso; omega)
              · first
                  | exact ⟨Z ++ [y], by rw [hc, if_neg hx]; go_num, hst4, hO4, hB4⟩
                  | (exfalso; rcases HBE.out with ⟨s, _⟩ | ⟨_, s, _⟩ <;> omega)
            case measure => simp only [lenOf]; omega
    · have hall := ((steps_cnt hst).2.1 (by omega))
      have HORD : OrdS X Z := ⟨hst, hall⟩
      clear hall
      go_wp2
      go_ret
      exact ⟨_, Z, rfl, HORD, ownI_low hO hB.size, btrans hB hBr⟩
end Go.Proofs.Ytpmofaajkhllpaa
