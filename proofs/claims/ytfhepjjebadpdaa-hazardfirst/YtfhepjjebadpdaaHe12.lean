/-
  The contracts of package hazard: At, First, Safe.
-/
import Derived.Test.YtfhepjjebadpdaaHs12
namespace Go.Proofs.Ytfhepjjebadpdaa
set_option maxRecDepth 20000
set_option linter.unusedVariables false
open Go.ChangeShapes Go.WideShapes Go.ChangeAt Go.RowKit

theorem fault_forms (X : List Ins) (k : Nat) :
    ((X.getD k Ins.zero).right = false ∧ faultI X k = 1) ∨
    ((X.getD k Ins.zero).right = true ∧ (X.getD k Ins.zero).goes = true ∧ fillB X k = false ∧ faultI X k = 2) ∨
    ((X.getD k Ins.zero).right = true ∧ (X.getD k Ins.zero).goes = true ∧ fillB X k = true ∧ (X.getD k Ins.zero).late = false ∧ faultI X k = 0) ∨
    ((X.getD k Ins.zero).right = true ∧ (X.getD k Ins.zero).goes = false ∧ (X.getD k Ins.zero).late = false ∧ faultI X k = 0) ∨
    ((X.getD k Ins.zero).right = true ∧ (X.getD k Ins.zero).goes = false ∧ (X.getD k Ins.zero).late = true ∧ slotB X k = true ∧ faultI X k = 3) ∨
    ((X.getD k Ins.zero).right = true ∧ (X.getD k Ins.zero).goes = false ∧ (X.getD k Ins.zero).late = true ∧ slotB X k = false ∧ soonB X k = true ∧ faultI X k = 4) ∨
    ((X.getD k Ins.zero).right = true ∧ (X.getD k Ins.zero).goes = false ∧ (X.getD k Ins.zero).late = true ∧ slotB X k = false ∧ soonB X k = false ∧ faultI X k = 0) := by
  have hf : fillB X k = true ↔ k + 1 < X.length ∧ (X.getD (k + 1) Ins.zero).goes = false := by unfold fillB; simp
  have hs : slotB X k = true ↔ 0 < k ∧ (X.getD (k - 1) Ins.zero).goes = true := by unfold slotB; simp
  have hn : soonB X k = true ↔ k + 1 < X.length ∧ (X.getD (k + 1) Ins.zero).rds (X.getD k Ins.zero).wr = true := by unfold soonB; simp
  have hgl := @goes_late (X.getD k Ins.zero)
  unfold faultI
  simp only [← hf, ← hs, ← hn]
  generalize fillB X k = f
  generalize slotB X k = s
  generalize soonB X k = n
  generalize (X.getD k Ins.zero).late = l at hgl ⊢
  generalize (X.getD k Ins.zero).goes = g at hgl ⊢
  generalize (X.getD k Ins.zero).right = r
  cases r <;> cases g <;> cases l <;> cases f <;> cases s <;> cases n <;> simp_all

set_option maxHeartbeats 4000000 in
theorem at_in (X : List Ins) (k : Nat) (v : Value) (w : World) (hX : X.length ≤ 5000) (hk : k < X.length) (hv : Code w v X) :
    Calls Try.prog 10 #[v, .int .i64 k] w fun e w' => e = .returned (.int .i64 (faultI X k)) ∧ Bel w w' := by
  have hfi := fun ww (q : Bel w ww) => fill_any X k v ww hX hk (hv.stay q)
  have hsl := fun ww (q : Bel w ww) => slot_any X k v ww hX hk (hv.stay q)
  have hso := fun ww (q : Bel w ww) => soon_any X k v ww hX hk (hv.stay q)
  have FF := hidm (fault_forms X k)
  obtain ⟨ao, cap, rfl, hc⟩ := hv
  obtain ⟨b, o, rfl, hb, hca⟩ := hc (by omega)
  obtain ⟨a0, a1, a2, a3, a4⟩ := hca k hk
  have hki : (k : Int) < X.length := by omega
  have hri := fun ww => right_any (X.getD k Ins.zero).o (X.getD k Ins.zero).a (X.getD k Ins.zero).b (X.getD k Ins.zero).c (X.getD k Ins.zero).i ww
  have hgo := fun ww => goes_any (X.getD k Ins.zero).o (X.getD k Ins.zero).a (X.getD k Ins.zero).b (X.getD k Ins.zero).c (X.getD k Ins.zero).i ww
  have hla := fun ww => late_any (X.getD k Ins.zero).o (X.getD k Ins.zero).a (X.getD k Ins.zero).b (X.getD k Ins.zero).c (X.getD k Ins.zero).i ww
  rw [show rightB (X.getD k Ins.zero).o (X.getD k Ins.zero).a (X.getD k Ins.zero).b (X.getD k Ins.zero).c (X.getD k Ins.zero).i = (X.getD k Ins.zero).right from rfl] at hri
  rw [show goesB (X.getD k Ins.zero).o (X.getD k Ins.zero).a (X.getD k Ins.zero).b (X.getD k Ins.zero).c (X.getD k Ins.zero).i = (X.getD k Ins.zero).goes from rfl] at hgo
  rw [show lateB (X.getD k Ins.zero).o (X.getD k Ins.zero).a (X.getD k Ins.zero).b (X.getD k Ins.zero).c (X.getD k Ins.zero).i = (X.getD k Ins.zero).late from rfl] at hla
  clear hc hca
  generalize fillB X k = f at hfi FF
  generalize slotB X k = s at hsl FF
  generalize soonB X k = n at hso FF
  generalize faultI X k = F at FF ⊢
  generalize (X.getD k Ins.zero).right = r at hri FF
  generalize (X.getD k Ins.zero).goes = g at hgo FF
  generalize (X.getD k Ins.zero).late = l at hla FF
  generalize X.getD k Ins.zero = x at a0 a1 a2 a3 a4 hri hgo hla
  obtain ⟨b0, b1, b2, b3, b4⟩ := box5 w x.o x.a x.b x.c x.i 31
  have hB : Bel w (w.alloc (Obj.cells #[.int .i64 x.o, .int .i64 x.a, .int .i64 x.b, .int .i64 x.c, .int .i64 x.i] 31)) := (Bel.refl w).alloc _
  go_enter Try.func10, Try.ntmps10
  go_wp2_with (go_at_call 18; refine Hid.out ?_)
  generalize (w.alloc (Obj.cells #[.int .i64 x.o, .int .i64 x.a, .int .i64 x.b, .int .i64 x.c, .int .i64 x.i] 31)) = wB at hB b0 b1 b2 b3 b4 ⊢
  have hfi2 := fun (u : Later wB) => hfi u.at_ (btrans hB u.is_)
  have hsl2 := fun (u : Later wB) => hsl u.at_ (btrans hB u.is_)
  have hso2 := fun (u : Later wB) => hso u.at_ (btrans hB u.is_)
  haveI := Later.ne wB
  obtain ⟨u1, e1⟩ := later_start wB
  rw [← e1]
  clear e1 hfi hsl hso a0 a1 a2 a3 a4
  refine hidm ?_
  rcases FF.out with ⟨rfl, rfl⟩ | ⟨rfl, rfl, rfl, rfl⟩ | ⟨rfl, rfl, rfl, rfl, rfl⟩ | ⟨rfl, rfl, rfl, rfl⟩ | ⟨rfl, rfl, rfl, rfl, rfl⟩ | ⟨rfl, rfl, rfl, rfl, rfl, rfl⟩ | ⟨rfl, rfl, rfl, rfl, rfl, rfl⟩
  all_goals
    clear FF
    go_wp2_with (first
      | (go_at_call 18; refine (later_of (hri _)).mono ?_; rintro e _ ⟨rfl, u2, rfl⟩)
      | (go_at_call 19; refine (later_of (hgo _)).mono ?_; rintro e _ ⟨rfl, u3, rfl⟩)
      | (go_at_call 21; refine (later_of (hla _)).mono ?_; rintro e _ ⟨rfl, u4, rfl⟩)
      | (go_at_call 20; refine (later_of (hfi2 _)).mono ?_; rintro e _ ⟨rfl, u5, rfl⟩)
      | (go_at_call 22; refine (later_of (hsl2 _)).mono ?_; rintro e _ ⟨rfl, u6, rfl⟩)
      | (go_at_call 23; refine (later_of (hso2 _)).mono ?_; rintro e _ ⟨rfl, u7, rfl⟩))
    go_ret
    exact ⟨rfl, btrans hB (Later.is_ _)⟩
set_option maxHeartbeats 1000000 in
theorem at_out (X : List Ins) (n : Int) (v : Value) (w : World) (hX : X.length ≤ 5000) (hn : ¬ (0 ≤ n ∧ n < X.length)) (hv : Code w v X) :
    Calls Try.prog 10 #[v, .int .i64 n] w fun e w' => e = .returned (.int .i64 0) ∧ Bel w w' := by
  obtain ⟨ao, cap, rfl, hc⟩ := hv
  clear hc
  by_cases h0 : n < 0
  · clear hn
    go_enter Try.func10, Try.ntmps10
    go_wp2
    go_ret
    exact ⟨rfl, Bel.refl _⟩
  · have h1 : (X.length : Int) ≤ n := by omega
    clear hn
    go_enter Try.func10, Try.ntmps10
    go_wp2
    go_ret
    exact ⟨rfl, Bel.refl _⟩

theorem fst_skip (X : List Ins) : ∀ k, k ≤ X.length → (∀ j, j < k → faultI X j = 0) → fstF X X.length = fstF X (X.length - k)
  | 0, _, _ => rfl
  | k + 1, hk, h => by
    rw [fst_skip X k (by omega) fun j hj => h j (by omega), show X.length - k = (X.length - (k + 1)) + 1 by omega]
    unfold fstF
    rw [if_neg]
    · cases X.length - (k + 1) <;> rfl
    · rw [show X.length - (X.length - (k + 1) + 1) = k by omega, h k (by omega)]
      simp
theorem fst_at {X : List Ins} {k : Nat} (hk : k < X.length) (h : ∀ j, j < k → faultI X j = 0) (hf : faultI X k ≠ 0) : fstF X X.length = ((k : Int), faultI X k) := by
  rw [fst_skip X k (by omega) h, show X.length - k = (X.length - (k + 1)) + 1 by omega]
  unfold fstF
  rw [show X.length - (X.length - (k + 1) + 1) = k by omega, if_pos hf]
theorem fst_none {X : List Ins} (h : ∀ j, j < X.length → faultI X j = 0) : fstF X X.length = (-1, 0) := by
  rw [fst_skip X X.length (Nat.le_refl _) h, Nat.sub_self]
  rfl
theorem ret_two {a b : Int} {p : Int × Int} (h : p = (a, b)) : Ending.returned (.tuple #[.int .i64 a, .int .i64 b]) = .returned (.tuple #[.int .i64 p.1, .int .i64 p.2]) := by rw [h]
set_option maxHeartbeats 1000000 in
theorem first_any (X : List Ins) (v : Value) (w : World) (hX : X.length ≤ 5000) (hv : Code w v X) :
    Calls Try.prog 11 #[v] w fun e w' => e = .returned (.tuple #[.int .i64 (fstF X X.length).1, .int .i64 (fstF X X.length).2]) ∧ Bel w w' := by
  have hat := fun k ww hk (q : Bel w ww) => at_in X k v ww hX hk (hv.stay q)
  have HY := hidm (fun k => @fst_at X k)
  have HN := hidm (@fst_none X)
  obtain ⟨ao, cap, rfl, hc⟩ := hv
  clear hc
  generalize fstF X X.length = p at HY HN ⊢
  go_enter Try.func11, Try.ntmps11
  go_wp2
  go_loopw [8] (fun i wr => ∃ k : Nat, k ≤ X.length ∧ i = .int .i64 k ∧ Hid (∀ j, j < k → faultI X j = 0) ∧ Bel w wr) (fun i _ => X.length - (intOf i).toNat)
  case atStart => exact ⟨0, Nat.zero_le _, rfl, fun i h => absurd h (Nat.not_lt_zero _), Bel.refl _⟩
  case round =>
    obtain ⟨k, hk, rfl, hno, hB⟩ := hrel
    rename World => wr
    by_cases hlt : k < X.length
    · have hF := hat k wr hlt hB
      have HYk := hidm (HY.out k hlt hno.out)
      have HNk : Hid (faultI X k = 0 → ∀ i, i < k + 1 → faultI X i = 0) := fun e i hi => by
        by_cases q : i = k
        · subst q; exact e
        · exact hno.out i (by omega)
      clear HY HN hno hat
      generalize faultI X k = y at hF HYk HNk
      by_cases e : y = 0
      · have e' : (y != 0) = false := by simp [e]
        have HF := hidm (HNk.out e)
        clear HYk HNk e
        go_wp2_with (go_at_call 10; refine hF.mono ?_; rintro e w1 ⟨rfl, b1⟩)
        go_roundw
        case rel => exact ⟨k + 1, by omega, by go_num, HF.out, btrans hB b1⟩
        case measure => simp [intOf]; omega
      · have e' : (y != 0) = true := by simp [e]
        have HF := hidm (HYk.out e)
        clear HYk HNk e
        go_wp2_with (go_at_call 10; refine hF.mono ?_; rintro e w1 ⟨rfl, b1⟩)
        go_ret2
        exact ⟨ret_two HF.out, btrans hB b1⟩
    · obtain rfl : k = X.length := by omega
      have HF := hidm (HN.out hno.out)
      clear HY HN hat hno
      go_wp2
      go_ret2
      exact ⟨ret_two HF.out, hB⟩
theorem safe_first (X : List Ins) : safeB X = ((fstF X X.length).2 == 0) := by
  rw [Bool.eq_iff_iff, safeB_iff, beq_iff_eq, fstF_safe X X.length (Nat.le_refl _), Nat.sub_self]
  exact ⟨fun h k _ hk => h k hk, fun h k hk => h k (Nat.zero_le _) hk⟩
theorem safe_any (X : List Ins) (v : Value) (w : World) (hX : X.length ≤ 5000) (hv : Code w v X) :
    Calls Try.prog 12 #[v] w fun e w' => e = .returned (.bool (safeB X)) ∧ Bel w w' := by
  have hS := hidm (safe_first X)
  have hf := first_any X v w hX hv
  generalize fstF X X.length = p at hf hS
  generalize safeB X = s at hS ⊢
  go_enter Try.func12, Try.ntmps12
  go_wp2_with (go_at_call 11; refine hf.mono ?_; rintro e w1 ⟨rfl, b1⟩)
  go_ret
  exact ⟨ret_bool hS.out.symm, b1⟩
end Go.Proofs.Ytfhepjjebadpdaa
