/-
  What one instruction does, by its class; code with a Nop behind each instruction, as plain mathematics.
-/
import Derived.Test.YthkhlkcdhalkfaaPy
namespace Go.Proofs.Ythkhlkcdhalkfaa
set_option maxRecDepth 20000
set_option linter.unusedVariables false
open Go.ChangeShapes Go.WideShapes Go.ChangeAt Go.RowKit

theorem step_at {X : List Ins} {p : Pt} {k : Nat} {x : Ins} (hp : p.st.place = (k : Int)) (hk : k < X.length) (hx : X.getD k Ins.zero = x) (hr : x.right = true) :
    stepP X p = doP x k (reg p.st.regs x.a) (reg p.st.regs x.b) (reg p.st.regs x.c) (reg p.st.regs 4) (arriveP (aheadP p)) := by
  unfold stepP
  rw [if_neg (by omega), hp, Int.toNat_natCast, hx, if_pos hr]
theorem wr_of {x : Ins} (hr : x.right = true) : x.wr = wA x.o x.a x.i := by
  unfold Ins.wr wr1
  rw [if_pos (show rightB x.o x.a x.b x.c x.i = true from hr)]
theorem late_of {x : Ins} (hr : x.right = true) : x.late = decide (x.o = 12 ∨ x.o = 20 ∧ x.i = 1) := by
  unfold Ins.late lateB
  rw [show rightB x.o x.a x.b x.c x.i = true from hr, Bool.true_and]
section
variable {x : Ins} {h a b c v : Int} {p : Pt}
theorem do_rec (hr : x.right = true) (ho : 1 ≤ x.o ∧ x.o ≤ 11) : doP x h a b c v p = (recT x.o c, if recT x.o c = 0 then setP x.a (recV x.o x.i b c) p else p) := by
  have e : writeP x (recV x.o x.i b c) p = setP x.a (recV x.o x.i b c) p := by
    unfold writeP
    rw [late_of hr, if_neg (by simp; omega), wr_of hr]
    unfold wA
    rw [if_pos (by omega)]
  unfold doP
  rw [if_neg (by omega), if_pos (by simpa [reckonsB] using ho)]
  unfold finishP
  rw [e]
theorem do_else (h1 : ¬ (15 ≤ x.o ∧ x.o ≤ 19)) (h2 : ¬ (1 ≤ x.o ∧ x.o ≤ 11)) : doP x h a b c v p = actP x a b v p := by
  unfold doP
  rw [if_neg h1, if_neg (by simpa [reckonsB] using h2)]
theorem do_nop (ho : x.o = 0) : doP x h a b c v p = (0, p) := by
  rw [do_else (by omega) (by omega)]
  unfold actP
  rw [if_neg (by omega), if_neg (by omega), if_neg (by omega), if_neg (by omega)]
theorem do_lw (hr : x.right = true) (ho : x.o = 12) : doP x h a b c v p = if inM p.st.mem (wrap32 (b + x.i)) = true then (0, { p with lr := x.a, lv := getM p.st.mem (wrap32 (b + x.i)) }) else (3, p) := by
  rw [do_else (by omega) (by omega)]
  unfold actP
  rw [if_pos ho]
  have e : ∀ w, writeP x w p = { p with lr := x.a, lv := w } := by
    intro w
    unfold writeP
    rw [late_of hr, if_pos (by simp [ho]), wr_of hr]
    unfold wA
    rw [if_pos (by omega)]
  unfold loadP
  rw [e]
theorem do_sw (ho : x.o = 13) : doP x h a b c v p = storeP (wrap32 (b + x.i)) a p := by
  rw [do_else (by omega) (by omega)]
  unfold actP
  rw [if_neg (by omega), if_pos ho]
theorem do_chk (ho : x.o = 14) : doP x h a b c v p = (chkT a x.i x.b, p) := by
  rw [do_else (by omega) (by omega)]
  unfold actP
  rw [if_neg (by omega), if_neg (by omega), if_pos ho]
theorem do_sys (hr : x.right = true) (ho : x.o = 20) : doP x h a b c v p = if x.i = 1 then (match p.st.inp with | [] => (6, p) | n :: r => (0, { p with st := { p.st with inp := r }, lr := 4, lv := wrap32 n })) else if x.i = 2 then tellP v p else (1, p) := by
  rw [do_else (by omega) (by omega)]
  unfold actP
  rw [if_neg (by omega), if_neg (by omega), if_neg (by omega), if_pos ho]
  unfold sysP
  by_cases hi : x.i = 1
  · rw [if_pos hi, if_pos hi]
    unfold takeP
    have e : ∀ w, writeP x w p = { p with lr := 4, lv := w } := by
      intro w
      unfold writeP
      rw [late_of hr, if_pos (by simp [ho, hi]), wr_of hr]
      unfold wA sW
      rw [if_neg (by omega), if_neg (by omega), if_pos ho, if_pos hi]
    cases p.st.inp with
    | nil => rfl
    | cons n r => dsimp only; rw [e]
  · rw [if_neg hi, if_neg hi]
theorem do_br (ho : x.o = 15 ∨ x.o = 16) : doP x h a b c v p = (0, if takenP x a b = true then { p with next := h + 1 + x.i } else p) := by
  unfold doP
  rw [if_pos (by omega)]
  have e1 : linkP x h p = p := by unfold linkP; rw [if_neg (by omega)]
  have e2 : toP x h a b = h + 1 + x.i := by unfold toP; rw [if_pos ho]
  unfold leaveP
  rw [e1, e2]
theorem do_jmp (ho : x.o = 17) : doP x h a b c v p = (0, { p with next := x.i }) := by
  unfold doP
  rw [if_pos (by omega)]
  have e1 : linkP x h p = p := by unfold linkP; rw [if_neg (by omega)]
  have e2 : toP x h a b = x.i := by unfold toP; rw [if_neg (by omega), if_neg (by omega)]
  have e3 : takenP x a b = true := by unfold takenP; rw [if_neg (by omega), if_neg (by omega)]
  unfold leaveP
  rw [e1, e2, e3, if_pos rfl]
end
/-- An instruction whose place is told anew. -/
def sp (x : Ins) : Ins := if x.o = 15 ∨ x.o = 16 then { x with i := 2 * x.i + 1 } else if x.o = 17 then { x with i := 2 * x.i } else x
def spX (X : List Ins) : List Ins := X.flatMap (fun x => [sp x, Ins.zero])
def Good (x : Ins) : Prop := x.o ≠ 18 ∧ x.o ≠ 19 ∧ ((x.o = 15 ∨ x.o = 16 ∨ x.o = 17) → -1000 ≤ x.i ∧ x.i ≤ 1000)
theorem spX_len (X : List Ins) : (spX X).length = 2 * X.length := by
  induction X with
  | nil => rfl
  | cons x r ih => simp only [spX, List.flatMap_cons, List.length_append, List.length_cons, List.length_nil] at ih ⊢; omega
theorem spX_at (X : List Ins) : ∀ k, k < X.length → (spX X).getD (2 * k) Ins.zero = sp (X.getD k Ins.zero) ∧ (spX X).getD (2 * k + 1) Ins.zero = Ins.zero := by
  induction X with
  | nil => intro k hk; simp at hk
  | cons x r ih =>
    intro k hk
    have e : spX (x :: r) = sp x :: Ins.zero :: spX r := rfl
    rw [e]
    cases k with
    | zero => exact ⟨rfl, rfl⟩
    | succ k =>
      have := ih k (by simpa using hk)
      rw [show 2 * (k + 1) = 2 * k + 1 + 1 by omega]
      simpa using this
theorem sp_o (x : Ins) : (sp x).o = x.o ∧ (sp x).a = x.a ∧ (sp x).b = x.b ∧ (sp x).c = x.c := by
  unfold sp
  split
  · exact ⟨rfl, rfl, rfl, rfl⟩
  · split <;> exact ⟨rfl, rfl, rfl, rfl⟩
theorem sp_id {x : Ins} (h : x.o ≠ 15) (h' : x.o ≠ 16) (h'' : x.o ≠ 17) : sp x = x := by unfold sp; rw [if_neg (by omega), if_neg h'']
theorem right_imm {o a b c i i' : Int} (h : (leastOf o ≤ i ∧ i ≤ mostOf o) ↔ (leastOf o ≤ i' ∧ i' ≤ mostOf o)) : rightB o a b c i = rightB o a b c i' := by
  unfold rightB
  rw [decide_eq_decide.2 h]
theorem sp_right {x : Ins} (h : Good x) : (sp x).right = x.right := by
  obtain ⟨o, a, b, c, i⟩ := x
  obtain ⟨h1, h2, h3⟩ := h
  dsimp only at h1 h2 h3
  unfold sp Ins.right
  dsimp only
  split
  · rename_i ho
    have := h3 (by omega)
    refine right_imm ?_
    dsimp only
    rcases ho with rfl | rfl
    · unfold leastOf mostOf; omega
    · unfold leastOf mostOf; omega
  split
  · rename_i ho
    have := h3 (by omega)
    refine right_imm ?_
    dsimp only
    subst ho
    unfold leastOf mostOf; omega
  · rfl
/-- The state of the other machine. -/
def emb (s : St) : Pt := ⟨{ s with place := 2 * s.place }, 2 * s.place + 1, 0, 0⟩
theorem emb_eq {R R' M I O : List Int} {a b d : Int} (hR : R = R') (h1 : a = 2 * d) (h2 : b = 2 * d + 1) : (⟨⟨R, M, a, I, O⟩, b, 0, 0⟩ : Pt) = emb ⟨R', M, d, I, O⟩ := by subst hR h1 h2; rfl
def Sp (Y : List Ins) (s : St) (r : Int × St) : Prop :=
  (r.1 = 0 ∧ ∃ p1, stepP Y (emb s) = (0, p1) ∧ stepP Y p1 = (0, emb r.2)) ∨ (r.1 ≠ 0 ∧ ∃ p1, stepP Y (emb s) = (r.1, p1) ∧ p1.st.out = r.2.out ∧ p1.st.mem = r.2.mem)
theorem zero_right : Ins.zero.right = true := by decide
theorem nop_step {X : List Ins} {k : Nat} (hk : k < X.length) (p : Pt) (hp : p.st.place = 2 * (k : Int) + 1) : stepP (spX X) p = (0, arriveP (aheadP p)) := by
  rw [step_at (k := 2 * k + 1) (x := Ins.zero) (by rw [hp]; omega) (by rw [spX_len]; omega) (spX_at X k hk).2 zero_right, do_nop rfl]
theorem nop_emb {X : List Ins} {k : Nat} {R R' M I O : List Int} {n lr lv d : Int} (hk : k < X.length) (hR : setR R lr lv = R') (hn : n = 2 * d) : stepP (spX X) ⟨⟨R, M, 2 * (k : Int) + 1, I, O⟩, n, lr, lv⟩ = (0, emb ⟨R', M, d, I, O⟩) := by
  rw [nop_step hk _ rfl]
  subst hR hn
  rfl
theorem sp_stop {Y : List Ins} {s s' : St} {t : Int} {p1 : Pt} (ht : t ≠ 0) (h : stepP Y (emb s) = (t, p1)) (ho : p1.st.out = s'.out) (hm : p1.st.mem = s'.mem) : Sp Y s (t, s') := .inr ⟨ht, p1, h, ho, hm⟩
theorem sp_go {Y : List Ins} {s s' : St} {p1 : Pt} (h1 : stepP Y (emb s) = (0, p1)) (h2 : stepP Y p1 = (0, emb s')) : Sp Y s (0, s') := .inl ⟨rfl, p1, h1, h2⟩
set_option maxHeartbeats 1000000 in
theorem spaced_step (X : List Ins) (hg : ∀ k, k < X.length → Good (X.getD k Ins.zero)) (s : St) : Sp (spX X) s (stepM X s) := by
  obtain ⟨R, M, q, I, O⟩ := s
  by_cases hq : q < 0 ∨ X.length ≤ q
  · have e1 : stepM X ⟨R, M, q, I, O⟩ = (2, ⟨R, M, q, I, O⟩) := by unfold stepM; rw [if_pos hq]
    have e2 : stepP (spX X) (emb ⟨R, M, q, I, O⟩) = (2, emb ⟨R, M, q, I, O⟩) := by
      unfold stepP
      rw [if_pos (by rw [spX_len]; show 2 * q < 0 ∨ ((2 * X.length : Nat) : Int) ≤ 2 * q; omega)]
    rw [e1]
    exact sp_stop (by decide) e2 rfl rfl
  · obtain ⟨k, rfl⟩ : ∃ k : Nat, q = k := ⟨q.toNat, by omega⟩
    have hk : k < X.length := by omega
    have hG := hg k hk
    obtain ⟨hx1, _⟩ := spX_at X k hk
    have hM : stepM X ⟨R, M, k, I, O⟩ = if (X.getD k Ins.zero).right = true then actM (X.getD k Ins.zero) ⟨R, M, k, I, O⟩ else (8, ⟨R, M, k, I, O⟩) := by
      unfold stepM
      rw [if_neg hq, Int.toNat_natCast]
    have hP : (X.getD k Ins.zero).right = true → stepP (spX X) (emb ⟨R, M, k, I, O⟩) = doP (sp (X.getD k Ins.zero)) (2 * k : Nat) (reg R (X.getD k Ins.zero).a) (reg R (X.getD k Ins.zero).b) (reg R (X.getD k Ins.zero).c) (reg R 4) ⟨⟨R, M, 2 * k + 1, I, O⟩, 2 * k + 1 + 1, 0, 0⟩ := by
      intro hr
      have := step_at (X := spX X) (p := emb ⟨R, M, k, I, O⟩) (k := 2 * k) (x := sp (X.getD k Ins.zero)) (by show 2 * (k : Int) = _; omega) (by rw [spX_len]; omega) hx1 (by rw [sp_right hG]; exact hr)
      rw [this, (sp_o _).2.1, (sp_o _).2.2.1, (sp_o _).2.2.2]
      rfl
    rw [hM]
    by_cases hr : (X.getD k Ins.zero).right = true
    · rw [if_pos hr]
      have hP' := hP hr
      have hn := fun p => nop_step (X := X) hk p
      have hr' : (sp (X.getD k Ins.zero)).right = true := by rw [sp_right hG]; exact hr
      generalize X.getD k Ins.zero = x at *
      clear hP hM hx1 hg
      have hbd := right_bd hr
      unfold actM
      by_cases ho : 1 ≤ x.o ∧ x.o ≤ 11
      · rw [sp_id (by omega) (by omega) (by omega), do_rec hr ho] at hP'
        rw [if_pos (by simpa [reckonsB] using ho)]
        unfold resM
        dsimp only
        by_cases ht : recT x.o (reg R x.c) = 0
        · rw [if_pos ht] at hP' ⊢
          rw [ht] at hP' ⊢
          exact sp_go hP' (nop_emb hk rfl (by first | rfl | omega | (dsimp only; omega)))
        · rw [if_neg ht] at hP' ⊢
          exact sp_stop ht hP' rfl rfl
      · rw [if_neg (by simpa [reckonsB] using ho)]
        unfold doM
        dsimp only
        by_cases e12 : x.o = 12
        · rw [sp_id (by omega) (by omega) (by omega), do_lw hr e12] at hP'
          rw [if_pos e12]
          unfold loadM
          dsimp only at hP' ⊢
          by_cases hz : inM M (wrap32 (reg R x.b + x.i)) = true
          · rw [if_pos hz] at hP' ⊢
            exact sp_go hP' (nop_emb hk rfl (by first | rfl | omega | (dsimp only; omega)))
          · rw [if_neg hz] at hP' ⊢
            exact sp_stop (by decide) hP' rfl rfl
        rw [if_neg e12]
        by_cases e13 : x.o = 13
        · rw [sp_id (by omega) (by omega) (by omega), do_sw e13] at hP'
          rw [if_pos e13]
          unfold storeM
          unfold storeP at hP'
          dsimp only at hP' ⊢
          by_cases hz : inM M (wrap32 (reg R x.b + x.i)) = true
          · rw [if_pos hz] at hP' ⊢
            exact sp_go hP' (nop_emb hk rfl (by first | rfl | omega | (dsimp only; omega)))
          · rw [if_neg hz] at hP' ⊢
            exact sp_stop (by decide) hP' rfl rfl
        rw [if_neg e13]
        by_cases e14 : x.o = 14
        · rw [sp_id (by omega) (by omega) (by omega), do_chk e14] at hP'
          rw [if_pos e14]
          by_cases ht : chkT (reg R x.a) x.i x.b = 0
          · rw [ht] at hP' ⊢
            exact sp_go hP' (nop_emb hk rfl (by first | rfl | omega | (dsimp only; omega)))
          · exact sp_stop ht hP' rfl rfl
        rw [if_neg e14]
        by_cases e15 : x.o = 15 ∨ x.o = 16
        · have hi : (sp x).i = 2 * x.i + 1 := by unfold sp; rw [if_pos e15]
          have ht : takenP (sp x) (reg R x.a) (reg R x.b) = if x.o = 15 then reg R x.a == reg R x.b else reg R x.a != reg R x.b := by
            unfold takenP
            rw [(sp_o x).1]
            rcases e15 with e | e
            · rw [if_pos e, if_pos e]
            · rw [if_neg (by omega), if_pos e, if_neg (by omega)]
          rw [do_br (by rw [(sp_o x).1]; exact e15), ht, hi] at hP'
          rcases e15 with e | e
          · rw [if_pos e] at hP' ⊢
            unfold goM
            cases hb : reg R x.a == reg R x.b
            · rw [hb, if_neg (by decide)] at hP'
              rw [if_neg (by decide)]
              exact sp_go hP' (nop_emb hk rfl (by first | rfl | omega | (dsimp only; omega)))
            · rw [hb, if_pos rfl] at hP'
              rw [if_pos rfl]
              exact sp_go hP' (nop_emb hk rfl (by first | rfl | omega | (dsimp only; omega)))
          · rw [if_neg (show ¬ x.o = 15 by omega)] at hP'
            rw [if_neg (show ¬ x.o = 15 by omega), if_pos e]
            unfold goM
            cases hb : reg R x.a != reg R x.b
            · rw [hb, if_neg (by decide)] at hP'
              rw [if_neg (by decide)]
              exact sp_go hP' (nop_emb hk rfl (by first | rfl | omega | (dsimp only; omega)))
            · rw [hb, if_pos rfl] at hP'
              rw [if_pos rfl]
              exact sp_go hP' (nop_emb hk rfl (by first | rfl | omega | (dsimp only; omega)))
        rw [if_neg (show ¬ x.o = 15 by omega), if_neg (show ¬ x.o = 16 by omega)]
        by_cases e17 : x.o = 17
        · have hi : (sp x).i = 2 * x.i := by unfold sp; rw [if_neg (by omega), if_pos e17]
          rw [do_jmp (by rw [(sp_o x).1]; exact e17), hi] at hP'
          rw [if_pos e17]
          exact sp_go hP' (nop_emb hk rfl (by first | rfl | omega | (dsimp only; omega)))
        rw [if_neg e17, if_neg hG.1, if_neg hG.2.1]
        rw [sp_id (by omega) (by omega) (by omega)] at hP'
        by_cases e20 : x.o = 20
        · rw [do_sys hr e20] at hP'
          rw [if_pos e20]
          unfold sysM
          dsimp only at hP' ⊢
          by_cases i1 : x.i = 1
          · rw [if_pos i1] at hP' ⊢
            cases I with
            | nil => exact sp_stop (by decide) hP' rfl rfl
            | cons y r => exact sp_go hP' (nop_emb hk rfl (by first | rfl | omega | (dsimp only; omega)))
          · rw [if_neg i1] at hP' ⊢
            by_cases i2 : x.i = 2
            · rw [if_pos i2] at hP' ⊢
              unfold tellP at hP'
              dsimp only at hP'
              by_cases hf : 10000 ≤ O.length
              · rw [if_pos hf] at hP' ⊢
                exact sp_stop (by decide) hP' rfl rfl
              · rw [if_neg hf] at hP' ⊢
                exact sp_go hP' (nop_emb hk rfl (by first | rfl | omega | (dsimp only; omega)))
            · rw [if_neg i2] at hP' ⊢
              exact sp_stop (by decide) hP' rfl rfl
        · rw [if_neg e20]
          rw [do_nop (by have := hG.1; have := hG.2.1; omega)] at hP'
          exact sp_go hP' (nop_emb hk rfl (by first | rfl | omega | (dsimp only; omega)))
    · rw [if_neg hr]
      have e2 : stepP (spX X) (emb ⟨R, M, k, I, O⟩) = (8, emb ⟨R, M, k, I, O⟩) := by
        unfold stepP
        rw [if_neg (by rw [spX_len]; show ¬ (2 * (k : Int) < 0 ∨ ((2 * X.length : Nat) : Int) ≤ 2 * (k : Int)); omega)]
        rw [show (emb ⟨R, M, k, I, O⟩).st.place.toNat = 2 * k from by show (2 * (k : Int)).toNat = _; omega, hx1, sp_right hG, if_neg hr]
      exact sp_stop (by decide) e2 rfl rfl
theorem spaced_run (X : List Ins) (hg : ∀ k, k < X.length → Good (X.getD k Ins.zero)) (s : St) : ∀ j, (∀ i, i ≤ j → (runK X s i).1 = 0) → (runP (spX X) (emb s) (2 * j)) = (0, emb (runK X s j).2) ∧ ∀ i, i ≤ 2 * j → (runP (spX X) (emb s) i).1 = 0
  | 0, _ => ⟨rfl, fun i hi => by rw [show i = 0 by omega]; rfl⟩
  | j + 1, h => by
    obtain ⟨h1, h2⟩ := spaced_run X hg s j (fun i hi => h i (by omega))
    have z0 := h j (by omega)
    have z1 := h (j + 1) (Nat.le_refl _)
    rw [runK_succ z0] at z1
    rcases spaced_step X hg (runK X s j).2 with ⟨_, p1, q1, q2⟩ | ⟨q0, _⟩
    · have e1 : runP (spX X) (emb s) (2 * j + 1) = (0, p1) := by rw [runP_succ (by rw [h1]), h1]; exact q1
      have e2 : runP (spX X) (emb s) (2 * (j + 1)) = (0, emb (runK X s (j + 1)).2) := by
        rw [show 2 * (j + 1) = 2 * j + 1 + 1 by omega, runP_succ (by rw [e1]), e1, runK_succ z0]; exact q2
      refine ⟨e2, fun i hi => ?_⟩
      rcases Nat.lt_or_ge i (2 * j + 1) with q | q
      · exact h2 i (by omega)
      · rcases Nat.lt_or_ge i (2 * j + 2) with q' | q'
        · obtain rfl : i = 2 * j + 1 := by omega
          rw [e1]
        · obtain rfl : i = 2 * (j + 1) := by omega
          rw [e2]
    · exact absurd z1 q0
theorem said_spaced {X : List Ins} {z : Int} {I : List Int} {f t t' s' : Int} {k : Nat} {O M O' M' : List Int} (hg : ∀ k, k < X.length → Good (X.getD k Ins.zero)) (hf : 0 ≤ f) (h : Said X z I f t k O M) (ht : t ≠ 0) (h' : SaidP (spX X) z I (2 * f + 10) t' s' O' M') : t' = t ∧ O' = O ∧ M' = M := by
  unfold Said at h
  by_cases hz : z < 0 ∨ 32000 < z
  · rw [if_pos hz] at h
    exact absurd h.1 ht
  · rw [if_neg hz] at h
    obtain ⟨hE, rfl, rfl, rfl⟩ := h
    obtain ⟨a1, a2, a3⟩ := hE
    cases k with
    | zero => exact absurd rfl ht
    | succ j =>
      obtain ⟨h1, h2⟩ := spaced_run X hg (start z.toNat I) j (fun i hi => a2 i (by omega))
      have z0 := a2 j (by omega)
      rw [runK_succ z0] at ht ⊢
      have hs : emb (start z.toNat I) = startP z.toNat I := rfl
      rw [hs] at h1 h2
      rcases spaced_step X hg (runK X (start z.toNat I) j).2 with ⟨q0, _⟩ | ⟨_, p1, q1, q2, q3⟩
      · exact absurd q0 ht
      · have e1 : runP (spX X) (startP z.toNat I) (2 * j + 1) = ((stepM X (runK X (start z.toNat I) j).2).1, p1) := by rw [runP_succ (by rw [h1]), h1]; exact q1
        obtain ⟨r1, _, r3, r4⟩ := psaid_at (2 * j + 1) (by omega) (by omega) (by omega) (fun i hi => h2 i (by omega)) (by rw [e1]; exact ht) h'
        rw [e1] at r1 r3 r4
        exact ⟨r1, r3.trans q2, by rw [r4]; show usedL p1.st.mem = _; rw [q3]⟩
end Go.Proofs.Ythkhlkcdhalkfaa
