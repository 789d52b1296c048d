/-
  Whether code is strict: the contracts of package block's showsPlaces and Strict, of slices.ContainsFunc there, and of the reference's Strict.
-/
import Derived.Test.YtdhnlloohjehgaaFt
import Derived.Test.YtdhnlloohjehgaaEff2
import Derived.Test.YtdhnlloohjehgaaRef3
namespace Go.Proofs.Ytdhnlloohjehgaa
set_option maxRecDepth 20000
set_option linter.unusedVariables false
open Go.ChangeShapes Go.WideShapes Go.ChangeAt Go.RowKit

/-- Does an instruction look at a link, or make one up, or go by another register? -/
def showsB (o a b c i : Int) : Bool := if o = 18 then false else if o = 19 then decide (a ≠ 31) else touchB o a b c i 31
def Ins.shows (x : Ins) : Bool := showsB x.o x.a x.b x.c x.i
def anyS (X : List Ins) : Bool := (List.range X.length).any fun k => (X.getD k Ins.zero).shows
def strictB (X : List Ins) : Bool := fitB X && !anyS X
theorem anyS_yes {X : List Ins} {k : Nat} (hk : k < X.length) (h : (X.getD k Ins.zero).shows = true) : anyS X = true := List.any_eq_true.2 ⟨k, List.mem_range.2 hk, h⟩
theorem anyS_no {X : List Ins} (k : Nat) (hk : X.length = k) (h : ∀ j, j < k → (X.getD j Ins.zero).shows = false) : anyS X = false := by
  rw [anyS, List.any_eq_false]
  intro j hj
  rw [h j (by rw [List.mem_range] at hj; omega)]
  decide
theorem shows_step {k : Nat} {X : List Ins} (h : ∀ j, j < k → (X.getD j Ins.zero).shows = false) (hk : (X.getD k Ins.zero).shows = false) : ∀ j, j < k + 1 → (X.getD j Ins.zero).shows = false := by
  intro j hj
  by_cases e : j = k
  · subst e; exact hk
  · exact h j (by omega)

set_option maxHeartbeats 1000000 in
theorem shows_any (o a b c i : Int) (w : World) :
    Calls Try.prog 24 #[.agg #[.int .i64 o, .int .i64 a, .int .i64 b, .int .i64 c, .int .i64 i]] w fun e w' => e = .returned (.bool (showsB o a b c i)) ∧ Bel w w' := by
  by_cases h1 : o = 18
  · have e := hidm (show showsB o a b c i = false from if_pos h1)
    go_enter Try.func24, Try.ntmps24
    go_wp2
    go_ret
    exact ⟨ret_bool e.out.symm, (Bel.refl w).alloc _⟩
  · by_cases h2 : o = 19
    · have e := hidm (show showsB o a b c i = (a != 31) from (if_neg h1).trans ((if_pos h2).trans (by rw [Bool.eq_iff_iff]; simp)))
      go_enter Try.func24, Try.ntmps24
      go_wp2
      go_ret
      exact ⟨ret_bool e.out.symm, (Bel.refl w).alloc _⟩
    · have e := hidm (show showsB o a b c i = touchB o a b c i 31 from (if_neg h1).trans (if_neg h2))
      go_enter Try.func24, Try.ntmps24
      go_wp2_with (go_at_call 32; refine (touches_any _ _ _ _ _ _ _).mono ?_; rintro e w1 ⟨rfl, hg1⟩)
      go_ret
      exact ⟨ret_bool e.out.symm, btrans ((Bel.refl w).alloc _) hg1⟩

set_option maxHeartbeats 2000000 in
theorem index_any (X : List Ins) (v : Value) (w : World) (hl : X.length ≤ 4096) (hv : Code w v X) :
    Calls Try.prog 31 #[v, .func (.func 24) #[] #[]] w fun e w' => ∃ r : Int, e = .returned (.int .i64 r) ∧ decide (0 ≤ r) = anyS X ∧ Bel w w' := by
  obtain ⟨ao, cap, rfl, hc⟩ := hv
  go_enter Try.func31, Try.ntmps31
  go_wp2
  go_loopw [8] (fun i wr => ∃ k : Nat, k ≤ X.length ∧ i = .int .i64 k ∧ (∀ j, j < k → (X.getD j Ins.zero).shows = false) ∧ Bel w wr) (fun i _ => X.length - (intOf i).toNat)
  case atStart => exact ⟨0, Nat.zero_le _, rfl, fun j hj => absurd hj (Nat.not_lt_zero _), Bel.refl w⟩
  case round =>
    obtain ⟨k, hk, rfl, hall, hb⟩ := hrel
    rename World => wr
    have hz := hb.size
    by_cases hlt : k < X.length
    · obtain ⟨b, o, rfl, hbw, hca⟩ := hc (by omega)
      obtain ⟨a0, a1, a2, a3, a4⟩ := hca k hlt
      rw [← (bcell hb).1 _ _ hbw] at a0 a1 a2 a3 a4
      have HN : Hid ((X.getD k Ins.zero).shows = true → anyS X = true) := fun h => anyS_yes hlt h
      have HS : Hid ((X.getD k Ins.zero).shows = false → ∀ j, j < k + 1 → (X.getD j Ins.zero).shows = false) := fun h => shows_step hall h
      generalize X.getD k Ins.zero = x at a0 a1 a2 a3 a4 HN HS
      clear hc hca hall
      cases hs : showsB x.o x.a x.b x.c x.i with
      | true =>
        have HF := hidm (HN.out hs)
        clear HN HS
        go_wp2_with (go_at_call 24; refine (shows_any _ _ _ _ _ _).mono ?_; rintro e w1 ⟨rfl, hg1⟩)
        go_ret
        exact ⟨_, rfl, by rw [HF.out]; exact decide_eq_true (by omega), btrans hb hg1⟩
      | false =>
        have HF := hidm (HS.out hs)
        clear HN HS
        go_wp2_with (go_at_call 24; refine (shows_any _ _ _ _ _ _).mono ?_; rintro e w1 ⟨rfl, hg1⟩)
        go_roundw
        case rel => exact ⟨k + 1, by omega, by go_num, HF.out, btrans hb hg1⟩
        case measure => simp [intOf]; omega
    · have HF := hidm (anyS_no k (by omega) hall)
      clear hc hall
      go_wp2
      go_ret
      exact ⟨_, rfl, by rw [HF.out]; decide, hb⟩
theorem contains_any (X : List Ins) (v : Value) (w : World) (hl : X.length ≤ 4096) (hv : Code w v X) :
    Calls Try.prog 23 #[v, .func (.func 24) #[] #[]] w fun e w' => e = .returned (.bool (anyS X)) ∧ Bel w w' := by
  go_enter Try.func23, Try.ntmps23
  go_wp2_with (go_at_call 31; refine (index_any X _ _ hl hv).mono ?_; rintro e w1 ⟨r, rfl, hr, hg1⟩; have HR := hidm hr; clear hr)
  all_goals
    go_ret
    refine ⟨ret_bool ?_, hg1⟩
    rw [← HR.out]

set_option maxHeartbeats 1000000 in
theorem strict_any (X : List Ins) (v : Value) (w : World) (hl : X.length ≤ 4096) (hv : Code w v X) :
    Calls Try.prog 15 #[v] w fun e w' => e = .returned (.bool (strictB X)) ∧ Bel w w' := by
  have hE : Hid (strictB X = (fitB X && !anyS X)) := rfl
  have hvs : ∀ w', Bel w w' → Code w' v X := fun w' h => hv.stay h
  cases hf : fitB X
  all_goals
    rw [hf] at hE
    go_enter Try.func15, Try.ntmps15
    go_wp2_with (first
      | (go_at_call 13; refine (fit_any X v _ hl hv).mono ?_; rw [hf]; rintro e w1 ⟨rfl, hg1⟩)
      | (go_at_call 23; refine (contains_any X v _ hl (hvs _ hg1)).mono ?_; rintro e w2 ⟨rfl, hg2⟩))
    go_ret
    exact ⟨ret_bool hE.out.symm, by first | exact hg1 | exact btrans hg1 hg2⟩

theorem shows_ref (o a b c i : Int) : showsB o a b c i = if o = 18 then false else if o = 19 then decide (a ≠ 31) else (refRd o a b c i 31 || decide (wr1 o a b c i = 31)) := by
  unfold showsB
  split
  · rfl
  · split
    · rfl
    · unfold touchB refRd
      rw [Bool.eq_iff_iff]
      simp only [Bool.or_eq_true, decide_eq_true_eq]
      omega
theorem strict_no {X : List Ins} (h : anyS X = true) : strictB X = false := by simp [strictB, h]
theorem strict_yes {X : List Ins} (hf : fitB X = true) (h : anyS X = false) : strictB X = true := by simp [strictB, hf, h]
set_option maxHeartbeats 4000000 in
theorem refStrict_any (X : List Ins) (v : Value) (w : World) (hl : X.length ≤ 4096) (hv : Code w v X) :
    Calls Try.prog 16 #[v] w fun e w' => e = .returned (.bool (strictB X)) ∧ Bel w w' := by
  cases hf : fitB X with
  | false =>
    have HF := hidm (show strictB X = false by simp [strictB, hf])
    go_enter Try.func16, Try.ntmps16
    go_wp2_with (go_at_call 14; refine (refFit_any X v _ hl hv).mono ?_; rw [hf]; rintro e w1 ⟨rfl, hg1⟩)
    go_ret
    exact ⟨ret_bool HF.out.symm, hg1⟩
  | true =>
    have hv0 := hv
    obtain ⟨ao, cap, rfl, hc⟩ := hv
    go_enter Try.func16, Try.ntmps16
    go_wp2_with (go_at_call 14; refine (refFit_any X _ _ hl hv0).mono ?_; rw [hf]; rintro e w1 ⟨rfl, hg1⟩)
    go_loopw [3] (fun i wr => ∃ k : Nat, k ≤ X.length ∧ i = .int .i64 k ∧ (∀ j, j < k → (X.getD j Ins.zero).shows = false) ∧ Bel w wr) (fun i _ => X.length - (intOf i).toNat)
    case atStart => exact ⟨0, Nat.zero_le _, rfl, fun j hj => absurd hj (Nat.not_lt_zero _), hg1⟩
    case round =>
      obtain ⟨k, hk, rfl, hall, hb⟩ := hrel
      rename World => wr
      have hz := hb.size
      by_cases hlt : k < X.length
      · obtain ⟨b, o, rfl, hbw, hca⟩ := hc (by omega)
        obtain ⟨a0, a1, a2, a3, a4⟩ := hca k hlt
        rw [← (bcell hb).1 _ _ hbw] at a0 a1 a2 a3 a4
        have HN : Hid ((X.getD k Ins.zero).shows = true → strictB X = false) := fun h => strict_no (anyS_yes hlt h)
        have HS : Hid ((X.getD k Ins.zero).shows = false → ∀ j, j < k + 1 → (X.getD j Ins.zero).shows = false) := fun h => shows_step hall h
        generalize X.getD k Ins.zero = x at a0 a1 a2 a3 a4 HN HS
        have HE : Hid (x.shows = _) := shows_ref x.o x.a x.b x.c x.i
        have hbz : b < wr.heap.size := Nat.lt_of_lt_of_le hbw hz
        clear hc hca hall hv0
        by_cases h18 : x.o = 18
        · have HF := hidm (HS.out (by rw [HE.out, if_pos h18]))
          clear HN HS HE
          go_wp2
          go_roundw
          case rel => exact ⟨k + 1, by omega, by go_num, HF.out, hb.alloc _⟩
          case measure => simp [intOf]; omega
        · by_cases h19 : x.o = 19
          · by_cases ha : x.a = 31
            · have HF := hidm (HS.out (by rw [HE.out, if_neg h18, if_pos h19]; exact decide_eq_false (fun q => q ha)))
              clear HN HS HE
              go_wp2
              go_roundw
              case rel => exact ⟨k + 1, by omega, by go_num, HF.out, hb.alloc _⟩
              case measure => simp [intOf]; omega
            · have HF := hidm (HN.out (by rw [HE.out, if_neg h18, if_pos h19]; exact decide_eq_true ha))
              clear HN HS HE
              go_wp2
              go_ret
              exact ⟨ret_bool HF.out.symm, hb.alloc _⟩
          · have HE2 : Hid (x.shows = (refRd x.o x.a x.b x.c x.i 31 || decide (wr1 x.o x.a x.b x.c x.i = 31))) := by rw [show x.shows = _ from HE.out, if_neg h18, if_neg h19]; rfl
            have g18 : (x.o != 18) = true := bne_iff_ne.2 h18
            have g19 : (x.o != 19) = true := bne_iff_ne.2 h19
            clear HE
            cases hr : refRd x.o x.a x.b x.c x.i 31 with
            | true =>
              have HF := hidm (HN.out (by rw [HE2.out, hr]; rfl))
              clear HN HS HE2
              go_wp2_with (go_at_call 25; refine (refReads_any _ _ _ _ _ _ _).mono ?_; rw [hr]; rintro e w2 ⟨rfl, hg2⟩)
              go_ret
              exact ⟨ret_bool HF.out.symm, btrans (hb.alloc _) hg2⟩
            | false =>
              by_cases hw : wr1 x.o x.a x.b x.c x.i = 31
              · have HF := hidm (HN.out (by rw [HE2.out, hr, hw]; rfl))
                clear HN HS HE2
                have HW := hidm hw
                clear hw
                go_wp2_with (first
                  | (go_at_call 25; refine (refReads_any _ _ _ _ _ _ _).mono ?_; rw [hr]; rintro e w2 ⟨rfl, hg2⟩; obtain ⟨hc2, hf2⟩ := bcell hg2; have hz2 : wr.heap.size < w2.heap.size := (by have := hg2.size; simp at this; omega))
                  | (go_at_call 26; refine (refWrites_any _ _ _ _ _ _).mono ?_; rw [HW.out]; rintro e w3 ⟨rfl, hg3⟩))
                go_ret
                exact ⟨ret_bool HF.out.symm, btrans (btrans (hb.alloc _) hg2) hg3⟩
              · have HF := hidm (HS.out (by rw [HE2.out, hr, decide_eq_false hw]; rfl))
                have gw : (wr1 x.o x.a x.b x.c x.i == 31) = false := beq_eq_false_iff_ne.2 hw
                clear HN HS HE2
                go_wp2_with (first
                  | (go_at_call 25; refine (refReads_any _ _ _ _ _ _ _).mono ?_; rw [hr]; rintro e w2 ⟨rfl, hg2⟩; obtain ⟨hc2, hf2⟩ := bcell hg2; have hz2 : wr.heap.size < w2.heap.size := (by have := hg2.size; simp at this; omega))
                  | (go_at_call 26; refine (refWrites_any _ _ _ _ _ _).mono ?_; rintro e w3 ⟨rfl, hg3⟩))
                go_roundw
                case rel => exact ⟨k + 1, by omega, by go_num, HF.out, btrans (btrans (hb.alloc _) hg2) hg3⟩
                case measure => simp [intOf]; omega
      · have HF := hidm (strict_yes hf (anyS_no k (by omega) hall))
        clear hc hall hv0
        go_wp2
        go_ret
        exact ⟨ret_bool HF.out.symm, hb⟩
end Go.Proofs.Ytdhnlloohjehgaa
