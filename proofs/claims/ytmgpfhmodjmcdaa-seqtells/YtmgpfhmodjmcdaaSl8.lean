/-
  Runs of written code, as plain mathematics: code that tells its input; a loop that adds.
-/
import Derived.Test.YtmgpfhmodjmcdaaSd
namespace Go.Proofs.Ytmgpfhmodjmcdaa
set_option maxRecDepth 20000
set_option linter.unusedVariables false
open Go.ChangeShapes Go.WideShapes Go.ChangeAt Go.RowKit

theorem reg_set_same (R : List Int) (k v : Int) (h0 : 0 < k) (hk : k < R.length) : reg (setR R k v) k = v := by
  unfold reg setR
  rw [if_neg (by omega)]
  simp [show k.toNat < R.length by omega]
theorem reg_set_ne (R : List Int) (k j v : Int) (h0 : 0 ≤ k) (hj : 0 ≤ j) (hne : j ≠ k) : reg (setR R k v) j = reg R j := by
  unfold reg setR
  split
  · rfl
  · rw [List.getElem?_set_ne (by omega)]
/-- Reads a number, tells it, and begins anew. -/
def tellX : List Ins := [⟨20, 0, 0, 0, 1⟩, ⟨20, 0, 0, 0, 2⟩, ⟨17, 0, 0, 0, 0⟩]
theorem tell_a (R M : List Int) (x : Int) (r O : List Int) : stepM tellX ⟨R, M, 0, x :: r, O⟩ = (0, ⟨setR R 4 (wrap32 x), M, 1, r, O⟩) := rfl
theorem tell_no (R M O : List Int) : (stepM tellX ⟨R, M, 0, [], O⟩).1 = 6 ∧ (stepM tellX ⟨R, M, 0, [], O⟩).2.out = O := ⟨rfl, rfl⟩
theorem tell_b (R M I O : List Int) (h : O.length < 10000) : stepM tellX ⟨R, M, 1, I, O⟩ = (0, ⟨R, M, 2, I, O ++ [reg R 4]⟩) := by
  show (if 10000 ≤ O.length then _ else _) = _
  rw [if_neg (by omega)]
  rfl
theorem tell_c (R M I O : List Int) : stepM tellX ⟨R, M, 2, I, O⟩ = (0, ⟨R, M, 0, I, O⟩) := rfl
theorem tell_run (V : List Int) (hV : ∀ x ∈ V, Wd x) (hl : V.length ≤ 100) : ∀ j, j ≤ V.length → (∀ i, i ≤ 3 * j → (runK tellX (start 0 (V.map (· + 4294967296))) i).1 = 0) ∧
    ∃ R M, R.length = 32 ∧ (runK tellX (start 0 (V.map (· + 4294967296))) (3 * j)).2 = ⟨R, M, 0, (V.map (· + 4294967296)).drop j, V.take j⟩
  | 0, _ => ⟨fun i hi => by
      have hi0 : i = 0 := by omega
      rw [hi0]
      rfl, _, _, by simp, rfl⟩
  | j + 1, hj => by
    obtain ⟨hz, R, M, hR, hs⟩ := tell_run V hV hl j (by omega)
    have hjl : j < V.length := by omega
    have hd : (V.map (· + 4294967296)).drop j = (V[j] + 4294967296) :: (V.map (· + 4294967296)).drop (j + 1) := by
      rw [List.drop_eq_getElem_cons (by simpa using hjl)]
      simp
    rw [hd] at hs
    have hw : wrap32 (V[j] + 4294967296) = V[j] := by
      have := hV V[j] (List.getElem_mem _)
      unfold Wd at this
      unfold wrap32
      omega
    have z0 := hz (3 * j) (Nat.le_refl _)
    have s1 := runK_succ z0
    rw [hs, tell_a, hw] at s1
    have z1 : (runK tellX (start 0 (V.map (· + 4294967296))) (3 * j + 1)).1 = 0 := by rw [s1]
    have s2 := runK_succ z1
    rw [s1, tell_b _ _ _ _ (by rw [List.length_take]; omega), reg_set_same _ _ _ (by omega) (by omega)] at s2
    have z2 : (runK tellX (start 0 (V.map (· + 4294967296))) (3 * j + 1 + 1)).1 = 0 := by rw [s2]
    have s3 := runK_succ z2
    rw [s2, tell_c] at s3
    refine ⟨fun i hi => ?_, setR R 4 V[j], M, by rw [setR_len]; exact hR, ?_⟩
    · rcases Nat.lt_or_ge (3 * j) i with h | h
      · obtain rfl | rfl | rfl : i = 3 * j + 1 ∨ i = 3 * j + 1 + 1 ∨ i = 3 * j + 1 + 1 + 1 := by omega
        · exact z1
        · exact z2
        · rw [s3]
      · exact hz i h
    · rw [show 3 * (j + 1) = 3 * j + 1 + 1 + 1 by omega, s3, List.take_succ_eq_append_getElem hjl]
theorem said_tells {V : List Int} {t : Int} {k : Nat} {O M : List Int} (hV : ∀ x ∈ V, Wd x) (hl : V.length ≤ 100) (h : Said tellX 0 (V.map (· + 4294967296)) 1000 t k O M) : t = 6 ∧ k = 3 * V.length + 1 ∧ O = V := by
  unfold Said at h
  rw [if_neg (by omega)] at h
  obtain ⟨hE, ht, hO, hM⟩ := h
  have hF : (1000 : Int).toNat = 1000 := rfl
  have hZ : (0 : Int).toNat = 0 := rfl
  rw [hF, hZ] at hE
  rw [hZ] at ht hO
  obtain ⟨hz, R, M', hR, hs⟩ := tell_run V hV hl V.length (Nat.le_refl _)
  have s1 := runK_succ (hz (3 * V.length) (Nat.le_refl _))
  rw [hs, List.drop_of_length_le (by simp), List.take_of_length_le (Nat.le_refl _)] at s1
  obtain ⟨q1, q2⟩ := tell_no R M' V
  rw [← s1] at q1 q2
  have hE2 : Ends tellX (start 0 (V.map (· + 4294967296))) 1000 (3 * V.length + 1) := ⟨by omega, fun j hj => hz j (by omega), .inl (by rw [q1]; decide)⟩
  obtain rfl := ends_one hE hE2
  exact ⟨ht.trans q1, rfl, hO.trans q2⟩
/-- Adds the numbers from k down to 1, and tells their sum. -/
def loopX (k : Int) : List Ins := [⟨10, 1, 0, 0, k⟩, ⟨1, 4, 4, 1, 0⟩, ⟨10, 1, 1, 0, -1⟩, ⟨16, 1, 0, 0, -3⟩, ⟨20, 0, 0, 0, 2⟩, ⟨20, 0, 0, 0, 0⟩]
def sumD (k : Nat) : Nat → Nat
  | 0 => 0
  | j + 1 => sumD k j + (k - j)
theorem sumD_all : ∀ k, k < 101 → sumD k k = k * (k + 1) / 2 := by decide +kernel
theorem sumD_le (k j : Nat) : sumD k j ≤ j * k := by
  induction j with
  | zero => simp [sumD]
  | succ j ih => simp only [sumD, Nat.succ_mul]; omega
theorem loop_b (k : Int) (R : List Int) : stepM (loopX k) ⟨R, [], 1, [], []⟩ = (0, ⟨setR R 4 (wrap32 (reg R 4 + reg R 1)), [], 2, [], []⟩) := rfl
theorem loop_c (k : Int) (R : List Int) : stepM (loopX k) ⟨R, [], 2, [], []⟩ = (0, ⟨setR R 1 (wrap32 (reg R 1 + -1)), [], 3, [], []⟩) := rfl
theorem loop_d (k : Int) (R : List Int) (h : reg R 0 = 0) (h1 : reg R 1 ≠ 0) : stepM (loopX k) ⟨R, [], 3, [], []⟩ = (0, ⟨R, [], 1, [], []⟩) := by
  show ((0 : Int), goM (reg R 1 != reg R 0) (-3) ⟨R, [], 3 + 1, [], []⟩) = _
  rw [h, show (reg R 1 != 0) = true by simpa using h1]
  rfl
theorem loop_e (k : Int) (R : List Int) (h : reg R 0 = 0) (h1 : reg R 1 = 0) : stepM (loopX k) ⟨R, [], 3, [], []⟩ = (0, ⟨R, [], 4, [], []⟩) := by
  show ((0 : Int), goM (reg R 1 != reg R 0) (-3) ⟨R, [], 3 + 1, [], []⟩) = _
  rw [h, h1]
  rfl
theorem loop_f (k : Int) (R : List Int) : stepM (loopX k) ⟨R, [], 4, [], []⟩ = (0, ⟨R, [], 5, [], [reg R 4]⟩) := rfl
theorem loop_g (k : Int) (R O : List Int) : stepM (loopX k) ⟨R, [], 5, [], O⟩ = (1, ⟨R, [], 6, [], O⟩) := rfl
theorem loop_a (k : Int) (hk : 0 ≤ k ∧ k ≤ 100) : stepM (loopX k) (start 0 []) = (0, ⟨setR (List.replicate 32 0) 1 k, [], 1, [], []⟩) := by
  have hr : (⟨10, 1, 0, 0, k⟩ : Ins).right = true := by
    show rightB 10 1 0 0 k = true
    simp [rightB, okOp, regB, regsOf, leastOf, mostOf]
    omega
  have hw : wrap32 (0 + k) = k := by unfold wrap32; omega
  show (if (⟨10, 1, 0, 0, k⟩ : Ins).right = true then actM ⟨10, 1, 0, 0, k⟩ (start 0 []) else (8, start 0 [])) = _
  rw [if_pos hr]
  show ((0 : Int), (⟨setR (List.replicate 32 0) 1 (wrap32 (0 + k)), [], 0 + 1, [], []⟩ : St)) = _
  rw [hw]
  rfl
theorem loop_run (k : Nat) (h1 : 1 ≤ k) (h2 : k ≤ 100) : ∀ j, j < k → (∀ i, i ≤ 1 + 3 * j → (runK (loopX k) (start 0 []) i).1 = 0) ∧
    ∃ R, R.length = 32 ∧ (runK (loopX k) (start 0 []) (1 + 3 * j)).2 = ⟨R, [], 1, [], []⟩ ∧ reg R 0 = 0 ∧ reg R 1 = k - j ∧ reg R 4 = sumD k j
  | 0, _ => by
    have s1 : runK (loopX k) (start 0 []) 1 = _ := (runK_succ (X := loopX k) (s := start 0 []) (k := 0) rfl).trans (loop_a k (by omega))
    refine ⟨fun i hi => ?_, setR (List.replicate 32 0) 1 k, by rw [setR_len]; simp, by rw [s1], ?_, ?_, ?_⟩
    · obtain rfl | rfl : i = 0 ∨ i = 1 := by omega
      · rfl
      · rw [s1]
    · rw [reg_set_ne _ _ _ _ (by omega) (by omega) (by omega)]; rfl
    · rw [reg_set_same _ _ _ (by omega) (by simp)]; omega
    · rw [reg_set_ne _ _ _ _ (by omega) (by omega) (by omega)]; rfl
  | j + 1, hj => by
    obtain ⟨hz, R, hR, hs, r0, r1, r4⟩ := loop_run k h1 h2 j (by omega)
    have hle := sumD_le k j
    have hle2 : j * k ≤ 100 * 100 := Nat.mul_le_mul (by omega) h2
    have z0 := hz (1 + 3 * j) (Nat.le_refl _)
    have s1 := runK_succ z0
    have w1 : wrap32 (reg R 4 + reg R 1) = sumD k (j + 1) := by
      rw [r4, r1]
      simp only [sumD]
      unfold wrap32
      omega
    rw [hs, loop_b, w1] at s1
    have z1 : (runK (loopX k) (start 0 []) (1 + 3 * j + 1)).1 = 0 := by rw [s1]
    have s2 := runK_succ z1
    have hR1 : (setR R 4 (sumD k (j + 1) : Int)).length = 32 := by rw [setR_len]; exact hR
    have w2 : wrap32 (reg (setR R 4 (sumD k (j + 1) : Int)) 1 + -1) = k - (j + 1) := by
      rw [reg_set_ne _ _ _ _ (by omega) (by omega) (by omega), r1]
      unfold wrap32
      omega
    rw [s1, loop_c, w2] at s2
    have z2 : (runK (loopX k) (start 0 []) (1 + 3 * j + 1 + 1)).1 = 0 := by rw [s2]
    have s3 := runK_succ z2
    rw [s2, loop_d] at s3
    · refine ⟨fun i hi => ?_, setR (setR R 4 (sumD k (j + 1) : Int)) 1 (k - (j + 1)), by rw [setR_len]; exact hR1, ?_, ?_, ?_, ?_⟩
      · rcases Nat.lt_or_ge (1 + 3 * j) i with h | h
        · obtain rfl | rfl | rfl : i = 1 + 3 * j + 1 ∨ i = 1 + 3 * j + 1 + 1 ∨ i = 1 + 3 * j + 1 + 1 + 1 := by omega
          · exact z1
          · exact z2
          · rw [s3]
        · exact hz i h
      · rw [show 1 + 3 * (j + 1) = 1 + 3 * j + 1 + 1 + 1 by omega, s3]
      · rw [reg_set_ne _ _ _ _ (by omega) (by omega) (by omega), reg_set_ne _ _ _ _ (by omega) (by omega) (by omega), r0]
      · rw [reg_set_same _ _ _ (by omega) (by omega)]; omega
      · rw [reg_set_ne _ _ _ _ (by omega) (by omega) (by omega), reg_set_same _ _ _ (by omega) (by omega)]
    · rw [reg_set_ne _ _ _ _ (by omega) (by omega) (by omega), reg_set_ne _ _ _ _ (by omega) (by omega) (by omega), r0]
    · rw [reg_set_same _ _ _ (by omega) (by omega)]; omega
theorem said_loop {n k : Nat} {t : Int} {O M : List Int} (h1 : 1 ≤ n) (h2 : n ≤ 100) (h : Said (loopX n) 0 [] 1000 t k O M) : t = 1 ∧ k = 3 * n + 3 ∧ O = [((n * (n + 1) / 2 : Nat) : Int)] := by
  unfold Said at h
  rw [if_neg (by omega)] at h
  obtain ⟨hE, ht, hO, hM⟩ := h
  have hF : (1000 : Int).toNat = 1000 := rfl
  have hZ : (0 : Int).toNat = 0 := rfl
  rw [hF, hZ] at hE
  rw [hZ] at ht hO
  obtain ⟨hz, R, hR, hs, r0, r1, r4⟩ := loop_run n h1 h2 (n - 1) (by omega)
  have hsum := sumD_all n (by omega)
  have hle := sumD_le n (n - 1)
  have hle2 : (n - 1) * n ≤ 100 * 100 := Nat.mul_le_mul (by omega) h2
  have e1 : 1 + 3 * (n - 1) = 3 * n - 2 := by omega
  rw [e1] at hz hs
  have hsn : sumD n n = sumD n (n - 1) + (n - (n - 1)) := by
    obtain ⟨m, rfl⟩ : ∃ m, n = m + 1 := ⟨n - 1, by omega⟩
    rfl
  have z0 := hz (3 * n - 2) (Nat.le_refl _)
  have s1 := runK_succ z0
  have w1 : wrap32 (reg R 4 + reg R 1) = sumD n n := by
    rw [r4, r1, hsn]
    unfold wrap32
    omega
  rw [hs, loop_b, w1] at s1
  have z1 : (runK (loopX n) (start 0 []) (3 * n - 2 + 1)).1 = 0 := by rw [s1]
  have s2 := runK_succ z1
  have hR1 : (setR R 4 (sumD n n : Int)).length = 32 := by rw [setR_len]; exact hR
  have w2 : wrap32 (reg (setR R 4 (sumD n n : Int)) 1 + -1) = 0 := by
    rw [reg_set_ne _ _ _ _ (by omega) (by omega) (by omega), r1]
    unfold wrap32
    omega
  rw [s1, loop_c, w2] at s2
  have z2 : (runK (loopX n) (start 0 []) (3 * n - 2 + 1 + 1)).1 = 0 := by rw [s2]
  have s3 := runK_succ z2
  rw [s2, loop_e] at s3
  · have z3 : (runK (loopX n) (start 0 []) (3 * n - 2 + 1 + 1 + 1)).1 = 0 := by rw [s3]
    have s4 := runK_succ z3
    rw [s3, loop_f] at s4
    have z4 : (runK (loopX n) (start 0 []) (3 * n - 2 + 1 + 1 + 1 + 1)).1 = 0 := by rw [s4]
    have s5 := runK_succ z4
    rw [s4, loop_g] at s5
    have hE2 : Ends (loopX n) (start 0 []) 1000 (3 * n - 2 + 1 + 1 + 1 + 1 + 1) := by
      refine ⟨by omega, fun i hi => ?_, .inl (by rw [s5]; exact (show ¬ ((1 : Int) = 0) by decide))⟩
      rcases Nat.lt_or_ge (3 * n - 2) i with h | h
      · obtain rfl | rfl | rfl | rfl : i = 3 * n - 2 + 1 ∨ i = 3 * n - 2 + 1 + 1 ∨ i = 3 * n - 2 + 1 + 1 + 1 ∨ i = 3 * n - 2 + 1 + 1 + 1 + 1 := by omega
        · exact z1
        · exact z2
        · exact z3
        · exact z4
      · exact hz i h
    obtain rfl := ends_one hE hE2
    rw [s5] at ht hO
    refine ⟨ht, by omega, hO.trans ?_⟩
    show [reg _ 4] = _
    rw [reg_set_ne _ _ _ _ (by omega) (by omega) (by omega), reg_set_same _ _ _ (by omega) (by omega), hsum]
  · rw [reg_set_ne _ _ _ _ (by omega) (by omega) (by omega), reg_set_ne _ _ _ _ (by omega) (by omega) (by omega), r0]
  · rw [reg_set_same _ _ _ (by omega) (by omega)]
end Go.Proofs.Ytmgpfhmodjmcdaa
