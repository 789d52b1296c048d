/-
  Whether code is fit: the contracts of package block's Fit and of the reference's.
-/
import Derived.Test.YtdhnlloohjehgaaTg
namespace Go.Proofs.Ytdhnlloohjehgaa
set_option maxRecDepth 20000
set_option linter.unusedVariables false
open Go.ChangeShapes Go.WideShapes Go.ChangeAt Go.RowKit

/-- Is an instruction right, and goes it, if it names a place, to one of code of so many, or its end? -/
def okB (m : Nat) (k : Nat) (x : Ins) : Bool := x.right && (!x.names || decide (0 ≤ x.tgt k ∧ x.tgt k ≤ (m : Int)))
def fitB (X : List Ins) : Bool := decide (X.length ≤ 4096) && (List.range X.length).all fun k => okB X.length k (X.getD k Ins.zero)
theorem fit_iff (X : List Ins) : fitB X = true ↔ X.length ≤ 4096 ∧ ∀ k, k < X.length → okB X.length k (X.getD k Ins.zero) = true := by
  simp only [fitB, Bool.and_eq_true, decide_eq_true_eq, List.all_eq_true, List.mem_range]
theorem fit_yes {X : List Ins} (h : X.length ≤ 4096) (k : Nat) (hk : X.length = k) (hj : ∀ j, j < k → okB X.length j (X.getD j Ins.zero) = true) : fitB X = true := (fit_iff X).2 ⟨h, fun j q => hj j (by omega)⟩
theorem fit_no {X : List Ins} {k : Nat} (hk : k < X.length) (h : okB X.length k (X.getD k Ins.zero) = false) : fitB X = false := by
  rw [Bool.eq_false_iff]
  intro e
  have := ((fit_iff X).1 e).2 k hk
  rw [h] at this
  cases this
theorem ok_step {m k : Nat} {X : List Ins} (h : ∀ j, j < k → okB m j (X.getD j Ins.zero) = true) (hk : okB m k (X.getD k Ins.zero) = true) : ∀ j, j < k + 1 → okB m j (X.getD j Ins.zero) = true := by
  intro j hj
  by_cases e : j = k
  · subst e; exact hk
  · exact h j (by omega)

set_option maxHeartbeats 2000000 in
theorem fit_any (X : List Ins) (v : Value) (w : World) (hl : X.length ≤ 4096) (hv : Code w v X) :
    Calls Try.prog 13 #[v] w fun e w' => e = .returned (.bool (fitB X)) ∧ Bel w w' := by
  obtain ⟨ao, cap, rfl, hc⟩ := hv
  go_enter Try.func13, Try.ntmps13
  go_wp2
  go_loopw [12] (fun i wr => ∃ k : Nat, k ≤ X.length ∧ i = .int .i64 k ∧ (∀ j, j < k → okB X.length j (X.getD j Ins.zero) = true) ∧ Bel w wr) (fun i _ => X.length - (intOf i).toNat)
  case atStart => exact ⟨0, Nat.zero_le _, rfl, fun j hj => absurd hj (Nat.not_lt_zero _), Bel.refl w⟩
  case round =>
    obtain ⟨k, hk, rfl, hall, hb⟩ := hrel
    rename World => wr
    have hz := hb.size
    by_cases hlt : k < X.length
    · obtain ⟨b, o, rfl, hbw, hca⟩ := hc (by omega)
      obtain ⟨a0, a1, a2, a3, a4⟩ := hca k hlt
      rw [← (bcell hb).1 _ _ hbw] at a0 a1 a2 a3 a4
      have HN : Hid (okB X.length k (X.getD k Ins.zero) = false → fitB X = false) := fun h => fit_no hlt h
      have HS : Hid (okB X.length k (X.getD k Ins.zero) = true → ∀ j, j < k + 1 → okB X.length j (X.getD j Ins.zero) = true) := fun h => ok_step hall h
      generalize X.getD k Ins.zero = x at a0 a1 a2 a3 a4 HN HS
      clear hc hca hall
      have hbd := tgt_bd x.o x.a x.b x.c x.i k (by omega)
      have hok : Hid (okB X.length k x = (rightB x.o x.a x.b x.c x.i && (!namesB x.o x.a x.b x.c x.i || decide (0 ≤ tgtI x.o x.a x.b x.c x.i k ∧ tgtI x.o x.a x.b x.c x.i k ≤ (X.length : Int))))) := rfl
      cases hr : rightB x.o x.a x.b x.c x.i with
      | false =>
        have HF := hidm (HN.out (by rw [hok.out, hr]; rfl))
        clear HN HS hok
        go_wp2_with (go_at_call 22; refine (right_any _ _ _ _ _ _).mono ?_; rintro e w1 ⟨rfl, hg1⟩)
        go_ret
        exact ⟨ret_bool HF.out.symm, btrans (hb.alloc _) hg1⟩
      | true =>
        cases hn : namesB x.o x.a x.b x.c x.i with
        | false =>
          have HF := hidm (HS.out (by rw [hok.out, hr, hn]; rfl))
          clear HN HS hok
          go_wp2_with (first | (go_at_call 22; refine (right_any _ _ _ _ _ _).mono ?_; rintro e w1 ⟨rfl, hg1⟩; obtain ⟨hcc, hff⟩ := bcell hg1; have hz1 : wr.heap.size < w1.heap.size := (by have := hg1.size; simp at this; omega)) | (go_at_call 11; refine (target_any _ _ _ _ _ _ (by omega) _).mono ?_; rintro e w2 ⟨rfl, hg2⟩))
          go_roundw
          case rel => exact ⟨k + 1, by omega, by go_num, HF.out, btrans (btrans (hb.alloc _) hg1) hg2⟩
          case measure => simp [intOf]; omega
        | true =>
          have HE : Hid (okB X.length k x = decide (0 ≤ tgtI x.o x.a x.b x.c x.i k ∧ tgtI x.o x.a x.b x.c x.i k ≤ (X.length : Int))) := by rw [show okB X.length k x = _ from hok.out, hr, hn]; rfl
          clear hok
          generalize ht : tgtI x.o x.a x.b x.c x.i k = t at HE hbd
          have HT := hidm ht
          clear ht
          by_cases h0 : t < 0
          · have HF := hidm (HN.out (by rw [HE.out]; exact decide_eq_false (by omega)))
            clear HN HS HE
            go_wp2_with (first | (go_at_call 22; refine (right_any _ _ _ _ _ _).mono ?_; rintro e w1 ⟨rfl, hg1⟩; obtain ⟨hcc, hff⟩ := bcell hg1; have hz1 : wr.heap.size < w1.heap.size := (by have := hg1.size; simp at this; omega)) | (go_at_call 11; refine (target_any _ _ _ _ _ _ (by omega) _).mono ?_; rw [HT.out, hn]; rintro e w2 ⟨rfl, hg2⟩))
            go_ret
            exact ⟨ret_bool HF.out.symm, btrans (btrans (hb.alloc _) hg1) hg2⟩
          · by_cases h1 : (X.length : Int) < t
            · have HF := hidm (HN.out (by rw [HE.out]; exact decide_eq_false (by omega)))
              clear HN HS HE
              go_wp2_with (first | (go_at_call 22; refine (right_any _ _ _ _ _ _).mono ?_; rintro e w1 ⟨rfl, hg1⟩; obtain ⟨hcc, hff⟩ := bcell hg1; have hz1 : wr.heap.size < w1.heap.size := (by have := hg1.size; simp at this; omega)) | (go_at_call 11; refine (target_any _ _ _ _ _ _ (by omega) _).mono ?_; rw [HT.out, hn]; rintro e w2 ⟨rfl, hg2⟩))
              go_ret
              exact ⟨ret_bool HF.out.symm, btrans (btrans (hb.alloc _) hg1) hg2⟩
            · have HF := hidm (HS.out (by rw [HE.out]; exact decide_eq_true (by omega)))
              clear HN HS HE
              go_wp2_with (first | (go_at_call 22; refine (right_any _ _ _ _ _ _).mono ?_; rintro e w1 ⟨rfl, hg1⟩; obtain ⟨hcc, hff⟩ := bcell hg1; have hz1 : wr.heap.size < w1.heap.size := (by have := hg1.size; simp at this; omega)) | (go_at_call 11; refine (target_any _ _ _ _ _ _ (by omega) _).mono ?_; rw [HT.out, hn]; rintro e w2 ⟨rfl, hg2⟩))
              go_roundw
              case rel => exact ⟨k + 1, by omega, by go_num, HF.out, btrans (btrans (hb.alloc _) hg1) hg2⟩
              case measure => simp [intOf]; omega
    · have HF := hidm (fit_yes hl k (by omega) hall)
      clear hc hall
      go_wp2
      go_ret
      exact ⟨ret_bool HF.out.symm, hb⟩

set_option maxHeartbeats 2000000 in
theorem refFit_any (X : List Ins) (v : Value) (w : World) (hl : X.length ≤ 4096) (hv : Code w v X) :
    Calls Try.prog 14 #[v] w fun e w' => e = .returned (.bool (fitB X)) ∧ Bel w w' := by
  obtain ⟨ao, cap, rfl, hc⟩ := hv
  go_enter Try.func14, Try.ntmps14
  go_wp2
  go_loopw [3] (fun i wr => ∃ k : Nat, k ≤ X.length ∧ i = .int .i64 k ∧ (∀ j, j < k → okB X.length j (X.getD j Ins.zero) = true) ∧ Bel w wr) (fun i _ => X.length - (intOf i).toNat)
  case atStart => exact ⟨0, Nat.zero_le _, rfl, fun j hj => absurd hj (Nat.not_lt_zero _), Bel.refl w⟩
  case round =>
    obtain ⟨k, hk, rfl, hall, hb⟩ := hrel
    rename World => wr
    have hz := hb.size
    by_cases hlt : k < X.length
    · obtain ⟨b, o, rfl, hbw, hca⟩ := hc (by omega)
      obtain ⟨a0, a1, a2, a3, a4⟩ := hca k hlt
      rw [← (bcell hb).1 _ _ hbw] at a0 a1 a2 a3 a4
      have hbz : b < wr.heap.size := Nat.lt_of_lt_of_le hbw hz
      have HN : Hid (okB X.length k (X.getD k Ins.zero) = false → fitB X = false) := fun h => fit_no hlt h
      have HS : Hid (okB X.length k (X.getD k Ins.zero) = true → ∀ j, j < k + 1 → okB X.length j (X.getD j Ins.zero) = true) := fun h => ok_step hall h
      generalize X.getD k Ins.zero = x at a0 a1 a2 a3 a4 HN HS
      clear hc hca hall
      have hbd := tgt_bd x.o x.a x.b x.c x.i k (by omega)
      have hok : Hid (okB X.length k x = (rightB x.o x.a x.b x.c x.i && (!namesB x.o x.a x.b x.c x.i || decide (0 ≤ tgtI x.o x.a x.b x.c x.i k ∧ tgtI x.o x.a x.b x.c x.i k ≤ (X.length : Int))))) := rfl
      generalize ht : tgtI x.o x.a x.b x.c x.i k = t at hok hbd
      have HT := hidm ht
      clear ht
      cases hr : rightB x.o x.a x.b x.c x.i with
      | false =>
        have HF := hidm (HN.out (by rw [hok.out, hr]; rfl))
        clear HN HS hok
        go_wp2_with (first | (go_at_call 21; refine (refRight_any _ _ _ _ _ _).mono ?_; rintro e w2 ⟨rfl, hg2⟩) | (go_at_call 12; refine (refTarget_any _ _ _ _ _ _ (by omega) _).mono ?_; rw [HT.out]; rintro e w1 ⟨rfl, hg1⟩; obtain ⟨hcc, hff⟩ := bcell hg1; have hz1 := hg1.size))
        go_ret
        exact ⟨ret_bool HF.out.symm, btrans (btrans hb hg1) hg2⟩
      | true =>
        cases hn : namesB x.o x.a x.b x.c x.i with
        | false =>
          have HF := hidm (HS.out (by rw [hok.out, hr, hn]; rfl))
          clear HN HS hok
          go_wp2_with (first | (go_at_call 21; refine (refRight_any _ _ _ _ _ _).mono ?_; rintro e w2 ⟨rfl, hg2⟩) | (go_at_call 12; refine (refTarget_any _ _ _ _ _ _ (by omega) _).mono ?_; rw [HT.out]; rintro e w1 ⟨rfl, hg1⟩; obtain ⟨hcc, hff⟩ := bcell hg1; have hz1 := hg1.size))
          go_roundw
          case rel => exact ⟨k + 1, by omega, by go_num, HF.out, btrans (btrans hb hg1) hg2⟩
          case measure => simp [intOf]; omega
        | true =>
          have HE : Hid (okB X.length k x = decide (0 ≤ t ∧ t ≤ (X.length : Int))) := by rw [show okB X.length k x = _ from hok.out, hr, hn]; rfl
          clear hok
          by_cases h0 : t < 0
          · have HF := hidm (HN.out (by rw [HE.out]; exact decide_eq_false (by omega)))
            clear HN HS HE
            go_wp2_with (first | (go_at_call 21; refine (refRight_any _ _ _ _ _ _).mono ?_; rintro e w2 ⟨rfl, hg2⟩) | (go_at_call 12; refine (refTarget_any _ _ _ _ _ _ (by omega) _).mono ?_; rw [HT.out, hn]; rintro e w1 ⟨rfl, hg1⟩; obtain ⟨hcc, hff⟩ := bcell hg1; have hz1 := hg1.size))
            go_ret
            exact ⟨ret_bool HF.out.symm, btrans (btrans hb hg1) hg2⟩
          · by_cases h1 : (X.length : Int) < t
            · have HF := hidm (HN.out (by rw [HE.out]; exact decide_eq_false (by omega)))
              clear HN HS HE
              go_wp2_with (first | (go_at_call 21; refine (refRight_any _ _ _ _ _ _).mono ?_; rintro e w2 ⟨rfl, hg2⟩) | (go_at_call 12; refine (refTarget_any _ _ _ _ _ _ (by omega) _).mono ?_; rw [HT.out, hn]; rintro e w1 ⟨rfl, hg1⟩; obtain ⟨hcc, hff⟩ := bcell hg1; have hz1 := hg1.size))
              go_ret
              exact ⟨ret_bool HF.out.symm, btrans (btrans hb hg1) hg2⟩
            · have HF := hidm (HS.out (by rw [HE.out]; exact decide_eq_true (by omega)))
              clear HN HS HE
              go_wp2_with (first | (go_at_call 21; refine (refRight_any _ _ _ _ _ _).mono ?_; rintro e w2 ⟨rfl, hg2⟩) | (go_at_call 12; refine (refTarget_any _ _ _ _ _ _ (by omega) _).mono ?_; rw [HT.out, hn]; rintro e w1 ⟨rfl, hg1⟩; obtain ⟨hcc, hff⟩ := bcell hg1; have hz1 := hg1.size))
              go_roundw
              case rel => exact ⟨k + 1, by omega, by go_num, HF.out, btrans (btrans hb hg1) hg2⟩
              case measure => simp [intOf]; omega
    · have HF := hidm (fit_yes hl k (by omega) hall)
      clear hc hall
      go_wp2
      go_ret
      exact ⟨ret_bool (by rw [HF.out]; exact decide_eq_true (by omega)), hb⟩
end Go.Proofs.Ytdhnlloohjehgaa
