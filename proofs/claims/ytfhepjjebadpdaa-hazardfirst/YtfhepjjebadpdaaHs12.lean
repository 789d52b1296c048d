/-
  The contract of package hazard's isReadNext.
-/
import Derived.Test.YtfhepjjebadpdaaHd12
import Derived.Deep.RegionHeld3
namespace Go.Proofs.Ytfhepjjebadpdaa
set_option maxRecDepth 20000
set_option linter.unusedVariables false
open Go.ChangeShapes Go.WideShapes Go.ChangeAt Go.RowKit

set_option maxHeartbeats 4000000 in
theorem soon_any (X : List Ins) (k : Nat) (v : Value) (w : World) (hX : X.length ≤ 5000) (hk : k < X.length) (hv : Code w v X) :
    Calls Try.prog 23 #[v, .int .i64 k] w fun e w' => e = .returned (.bool (soonB X k)) ∧ Bel w w' := by
  obtain ⟨ao, cap, rfl, hc⟩ := hv
  obtain ⟨b, o, rfl, hb, hca⟩ := hc (by omega)
  have hE : Hid (soonB X k = (decide (k + 1 < X.length) && (X.getD (k + 1) Ins.zero).rds (X.getD k Ins.zero).wr)) := rfl
  generalize soonB X k = r at hE ⊢
  clear hc
  by_cases h1 : k + 1 < X.length
  · obtain ⟨a0, a1, a2, a3, a4⟩ := hca (k + 1) h1
    obtain ⟨d0, d1, d2, d3, d4⟩ := hca k hk
    have A0 := later_cell a0 hb
    have A1 := later_cell a1 hb
    have A2 := later_cell a2 hb
    have A3 := later_cell a3 hb
    have A4 := later_cell a4 hb
    have D0 := later_cell d0 hb
    have D1 := later_cell d1 hb
    have D2 := later_cell d2 hb
    have D3 := later_cell d3 hb
    have D4 := later_cell d4 hb
    have hE2 : Hid (r = decide ((X.getD k Ins.zero).wr ∈ (X.getD (k + 1) Ins.zero).rdl)) := hidm (by
      rw [hE.out, decide_eq_true h1, Bool.true_and, Bool.eq_iff_iff, decide_eq_true_eq, rdl_mem])
    have h2 : (k : Int) + 1 < X.length := by omega
    have hd : decide ((k : Int) + 1 < (X.length : Int)) = true := decide_eq_true h2
    have h20 : (0 : Int) ≤ (k : Int) + 1 := by omega
    have hki : (k : Int) < X.length := by omega
    clear hE hca h1 a0 a1 a2 a3 a4 d0 d1 d2 d3 d4
    generalize X.getD k Ins.zero = x at D0 D1 D2 D3 D4 hE2
    generalize X.getD (k + 1) Ins.zero = y at A0 A1 A2 A3 A4 hE2
    have hwr : ∀ ww, Calls Try.prog 29 #[.agg #[.int .i64 x.o, .int .i64 x.a, .int .i64 x.b, .int .i64 x.c, .int .i64 x.i]] ww fun e w' => e = .returned (.int .i64 x.wr) ∧ Bel ww w' := fun ww => writes_any x.o x.a x.b x.c x.i ww
    have hrd : ∀ ww, Calls Try.prog 28 #[.agg #[.int .i64 y.o, .int .i64 y.a, .int .i64 y.b, .int .i64 y.c, .int .i64 y.i]] ww fun e w' => ∃ v, e = .returned v ∧ Ints .i64 w' v y.rdl ∧ Bel ww w' := fun ww => (reads_any y.o y.a y.b y.c y.i ww).mono fun e w' ⟨v, h1, h2, h3⟩ => ⟨v, h1, ints_of_row h2, h3⟩
    have hcon := fun v ww hv => containsZ_any y.rdl x.wr v ww (by have := rdl_len y; omega) hv
    generalize x.wr = n at hwr hcon hE2
    generalize y.rdl = L at hrd hcon hE2
    haveI := Later.ne w
    obtain ⟨u1, eu⟩ := later_start w
    have EU := hidm eu
    go_enter Try.func23, Try.ntmps23
    rw [← eu]
    clear eu
    go_wp2
    refine wp_region_held_drew (S := (fun w' => ∃ u : Later w, w' = u.at_)) (by kernel_rfl) ⟨⟨u1.at_.drew, u1.is_.drew⟩, rfl⟩ (fun hHeld => ?_)
    obtain ⟨u0, eu0⟩ : ∃ u : Later w, u1.at_.drew = u.at_ := ⟨⟨u1.at_.drew, u1.is_.drew⟩, rfl⟩
    rw [eu0]
    rw [eu0] at hHeld
    clear eu0
    refine wpAnyH_take (i := 0) (v := ?_) (by simp only [List.getElem?_toArray, List.getElem?_cons_zero]; rfl) (by kernel_rfl) (by kernel_rfl) (by kernel_rfl) (by intro _ _ _ h; exact h) (Or.inl ⟨by rfl, ?_⟩) (by assumption) ?_
    rotate_left 1
    · (intro w9 hSw; obtain ⟨u9, rfl⟩ := hSw; go_simp; try with_reducible rfl)
    try simp only [Act.put, List.setIfInBounds_toArray, List.set_cons_zero, List.set_cons_succ]
    refine wpAnyH_take (i := 1) (v := ?_) (by simp only [List.getElem?_toArray, List.getElem?_cons_succ, List.getElem?_cons_zero]; rfl) (by kernel_rfl) (by kernel_rfl) (by kernel_rfl) (by intro _ _ _ h; exact h) (Or.inl ⟨by rfl, ?_⟩) (by assumption) ?_
    rotate_left 1
    · (intro w9 hSw; obtain ⟨u9, rfl⟩ := hSw; go_simp; try with_reducible rfl)
    try simp only [Act.put, List.setIfInBounds_toArray, List.set_cons_zero, List.set_cons_succ]
    refine wpAnyH_take (i := 2) (v := ?_) (by simp only [List.getElem?_toArray, List.getElem?_cons_succ, List.getElem?_cons_zero]; rfl) (by kernel_rfl) (by kernel_rfl) (by kernel_rfl) (by intro _ _ _ h; exact h) (Or.inl ⟨by rfl, ?_⟩) (by assumption) ?_
    rotate_left 1
    · (intro w9 hSw; obtain ⟨u9, rfl⟩ := hSw; go_simp; try with_reducible rfl)
    try simp only [Act.put, List.setIfInBounds_toArray, List.set_cons_zero, List.set_cons_succ]
    refine wpAnyH_take (i := 3) (v := ?_) (by simp only [List.getElem?_toArray, List.getElem?_cons_succ, List.getElem?_cons_zero]; rfl) (by kernel_rfl) (by kernel_rfl) (by kernel_rfl) (by intro _ _ _ h; exact h) (Or.inl ⟨by rfl, ?_⟩) (by assumption) ?_
    rotate_left 1
    · (intro w9 hSw; obtain ⟨u9, rfl⟩ := hSw; go_simp; try with_reducible rfl)
    try simp only [Act.put, List.setIfInBounds_toArray, List.set_cons_zero, List.set_cons_succ]
    try simp only [hd]
    refine wpAnyH_take (i := 4) (v := ?_) (by simp only [List.getElem?_toArray, List.getElem?_cons_succ, List.getElem?_cons_zero]; rfl) (by kernel_rfl) (by kernel_rfl) (by kernel_rfl) (by intro _ _ _ h; exact h) (Or.inl ⟨by rfl, ?_⟩) (by assumption) ?_
    rotate_left 1
    · (intro w9 hSw; obtain ⟨u9, rfl⟩ := hSw; go_simp; try with_reducible rfl)
    try simp only [Act.put, List.setIfInBounds_toArray, List.set_cons_zero, List.set_cons_succ]
    refine wpAnyH_take (i := 5) (v := ?_) (by simp only [List.getElem?_toArray, List.getElem?_cons_succ, List.getElem?_cons_zero]; rfl) (by kernel_rfl) (by kernel_rfl) (by kernel_rfl) (by intro _ _ _ h; exact h) (Or.inl ⟨by rfl, ?_⟩) (by assumption) ?_
    rotate_left 1
    · (intro w9 hSw; obtain ⟨u9, rfl⟩ := hSw; go_simp; try with_reducible rfl)
    try simp only [Act.put, List.setIfInBounds_toArray, List.set_cons_zero, List.set_cons_succ]
    refine wpAnyH_take (i := 6) (v := ?_) (by simp only [List.getElem?_toArray, List.getElem?_cons_succ, List.getElem?_cons_zero]; rfl) (by kernel_rfl) (by kernel_rfl) (by kernel_rfl) (by intro _ _ _ h; exact h) (Or.inl ⟨by rfl, ?_⟩) (by assumption) ?_
    rotate_left 1
    · (intro w9 hSw; obtain ⟨u9, rfl⟩ := hSw; go_simp; try with_reducible rfl)
    try simp only [Act.put, List.setIfInBounds_toArray, List.set_cons_zero, List.set_cons_succ]
    refine wpAnyH_take (i := 7) (v := ?_) (by simp only [List.getElem?_toArray, List.getElem?_cons_succ, List.getElem?_cons_zero]; rfl) (by kernel_rfl) (by kernel_rfl) (by kernel_rfl) (by intro _ _ _ h; exact h) (Or.inl ⟨by rfl, ?_⟩) (by assumption) ?_
    rotate_left 1
    · (intro w9 hSw; obtain ⟨u9, rfl⟩ := hSw; go_simp; try with_reducible rfl)
    try simp only [Act.put, List.setIfInBounds_toArray, List.set_cons_zero, List.set_cons_succ]
    refine wpAnyH_take (i := 8) (v := ?_) (by simp only [List.getElem?_toArray, List.getElem?_cons_succ, List.getElem?_cons_zero]; rfl) (by kernel_rfl) (by kernel_rfl) (by kernel_rfl) (by intro _ _ _ h; exact h) (Or.inl ⟨by rfl, ?_⟩) (by assumption) ?_
    rotate_left 1
    · (intro w9 hSw; obtain ⟨u9, rfl⟩ := hSw; go_simp; try with_reducible rfl)
    try simp only [Act.put, List.setIfInBounds_toArray, List.set_cons_zero, List.set_cons_succ]
    refine wpAnyH_take (i := 10) (v := ?_) (by simp only [List.getElem?_toArray, List.getElem?_cons_succ, List.getElem?_cons_zero]; rfl) (by kernel_rfl) (by kernel_rfl) (by kernel_rfl) (by intro _ _ _ h; exact h) (Or.inl ⟨by rfl, ?_⟩) (by assumption) ?_
    rotate_left 1
    · (intro w9 hSw; obtain ⟨u9, rfl⟩ := hSw; go_simp; try with_reducible rfl)
    try simp only [Act.put, List.setIfInBounds_toArray, List.set_cons_zero, List.set_cons_succ]
    refine wpAnyH_take (i := 11) (v := ?_) (by simp only [List.getElem?_toArray, List.getElem?_cons_succ, List.getElem?_cons_zero]; rfl) (by kernel_rfl) (by kernel_rfl) (by kernel_rfl) (by intro _ _ _ h; exact h) (Or.inl ⟨by rfl, ?_⟩) (by assumption) ?_
    rotate_left 1
    · (intro w9 hSw; obtain ⟨u9, rfl⟩ := hSw; go_simp; try with_reducible rfl)
    try simp only [Act.put, List.setIfInBounds_toArray, List.set_cons_zero, List.set_cons_succ]
    refine wpAnyH_take (i := 12) (v := ?_) (by simp only [List.getElem?_toArray, List.getElem?_cons_succ, List.getElem?_cons_zero]; rfl) (by kernel_rfl) (by kernel_rfl) (by kernel_rfl) (by intro _ _ _ h; exact h) (Or.inl ⟨by rfl, ?_⟩) (by assumption) ?_
    rotate_left 1
    · (intro w9 hSw; obtain ⟨u9, rfl⟩ := hSw; go_simp; try with_reducible rfl)
    try simp only [Act.put, List.setIfInBounds_toArray, List.set_cons_zero, List.set_cons_succ]
    refine wpAnyH_take (i := 13) (v := ?_) (by simp only [List.getElem?_toArray, List.getElem?_cons_succ, List.getElem?_cons_zero]; rfl) (by kernel_rfl) (by kernel_rfl) (by kernel_rfl) (by intro _ _ _ h; exact h) (Or.inl ⟨by rfl, ?_⟩) (by assumption) ?_
    rotate_left 1
    · (intro w9 hSw; obtain ⟨u9, rfl⟩ := hSw; go_simp; try with_reducible rfl)
    try simp only [Act.put, List.setIfInBounds_toArray, List.set_cons_zero, List.set_cons_succ]
    refine wpAnyH_ready (rs := [9]) (by kernel_rfl) (by simp) ?_
    refine AllReadyH.cons (by simp only [List.getElem?_toArray, List.getElem?_cons_succ, List.getElem?_cons_zero]; rfl) (fun K9 hK9 => ?_) (AllReadyH.nil)
    go_simp
    go_wp2_with (go_at_call 28; refine (hrd _).mono ?_; rintro e _ ⟨vv, rfl, hI, g2⟩; obtain ⟨u2, rfl⟩ := later_next g2)
    refine hK9.out _ _ ⟨u2, rfl⟩ (fun hHeld => ?_)
    clear hK9 K9
    refine wpAnyH_ready (rs := [14]) (by kernel_rfl) (by simp) ?_
    refine AllReadyH.cons (by simp only [List.getElem?_toArray, List.getElem?_cons_succ, List.getElem?_cons_zero]; rfl) (fun K9 hK9 => ?_) (AllReadyH.nil)
    go_simp
    go_wp2_with (go_at_call 29; refine (hwr _).mono ?_; rintro e _ ⟨rfl, g3⟩; obtain ⟨u3, rfl⟩ := later_next g3)
    refine hK9.out _ _ ⟨u3, rfl⟩ (fun hHeld => ?_)
    clear hK9 K9
    refine wpAnyH_ready (rs := [15]) (by kernel_rfl) (by simp) ?_
    refine AllReadyH.cons (by simp only [List.getElem?_toArray, List.getElem?_cons_succ, List.getElem?_cons_zero]; rfl) (fun K9 hK9 => ?_) (AllReadyH.nil)
    go_simp
    go_wp2_with (go_at_call 27; refine (hcon _ _ (hI.bel g3)).mono ?_; rintro e _ ⟨rfl, g5⟩; obtain ⟨u5, rfl⟩ := later_next g5)
    refine hK9.out _ _ ⟨u5, rfl⟩ (fun hHeld => ?_)
    clear hK9 K9
    refine wpAnyH_take (i := 16) (v := ?_) (by simp only [List.getElem?_toArray, List.getElem?_cons_succ, List.getElem?_cons_zero]; rfl) (by kernel_rfl) (by kernel_rfl) (by kernel_rfl) (by intro _ _ _ h; exact h) (Or.inl ⟨by rfl, ?_⟩) (by assumption) ?_
    rotate_left 1
    · (intro w9 hSw; obtain ⟨u9, rfl⟩ := hSw; go_simp; try with_reducible rfl)
    try simp only [Act.put, List.setIfInBounds_toArray, List.set_cons_zero, List.set_cons_succ]
    refine wpAnyH_ready (rs := [17]) (by kernel_rfl) (by simp) ?_
    refine AllReadyH.cons (by simp only [List.getElem?_toArray, List.getElem?_cons_succ, List.getElem?_cons_zero]; rfl) (fun K9 hK9 => ?_) (AllReadyH.nil)
    go_simp
    refine hK9.out _ _ ⟨u5, rfl⟩ (fun hHeld => ?_)
    clear hK9 K9
    refine wpAnyH_done (by kernel_rfl) ?_ _
    go_wp2
    go_ret
    exact ⟨ret_bool hE2.out.symm, by rw [EU.out]; exact u5.is_⟩
  · have hE2 : Hid (r = false) := hidm (by rw [hE.out, decide_eq_false h1, Bool.false_and])
    have h2 : ¬ (k : Int) + 1 < X.length := by omega
    have hd : decide ((k : Int) + 1 < (X.length : Int)) = false := decide_eq_false h2
    clear hE hca h1
    haveI := Later.ne w
    obtain ⟨u1, eu⟩ := later_start w
    have EU := hidm eu
    go_enter Try.func23, Try.ntmps23
    rw [← eu]
    clear eu
    go_wp2
    refine wp_region_later (by kernel_rfl) (by kernel_rfl) ?_
    repeat (go_big_quiet_step (fail))
    refine wpQuiet_nil ?_
    rintro _ ⟨u2, rfl⟩
    go_wp2
    go_ret
    exact ⟨ret_bool hE2.out.symm, by rw [EU.out]; exact u2.is_⟩
end Go.Proofs.Ytfhepjjebadpdaa
