/-
  Where blocks begin: how many do ahead of a place; what stands between two cuts; code with one more instruction; a branch among Nops.
-/
import Derived.Test.YtdhnlloohjehgaaHb
import Derived.Test.YtdhnlloohjehgaaSc
namespace Go.Proofs.Ytdhnlloohjehgaa
set_option maxRecDepth 20000
set_option linter.unusedVariables false
open Go.ChangeShapes Go.WideShapes Go.ChangeAt Go.RowKit

/-- How many blocks begin ahead of a place. -/
def cntH (X : List Ins) (n : Nat) : Nat := ((List.range n).filter (hdB X)).length
theorem cntH_yes {X : List Ins} {n : Nat} (h : hdB X n = true) : cntH X (n + 1) = cntH X n + 1 := by
  simp [cntH, List.range_succ, List.filter_append, h]
theorem cntH_no {X : List Ins} {n : Nat} (h : hdB X n = false) : cntH X (n + 1) = cntH X n := by
  simp [cntH, List.range_succ, List.filter_append, h]
theorem cntH_all (X : List Ins) : cntH X X.length = (hdL X).length := by simp [cntH, hdL]
theorem hd_get (p : Nat → Bool) : ∀ len at_ : Nat, at_ < len → p at_ = true → ((List.range len).filter p)[((List.range at_).filter p).length]? = some at_ := by
  intro len
  induction len with
  | zero => intro a h; omega
  | succ n ih =>
    intro a h hp
    rw [List.range_succ, List.filter_append]
    by_cases e : a = n
    · subst e
      rw [List.getElem?_append_right (Nat.le_refl _)]
      simp [hp]
    · have := ih a (by omega) hp
      have hl := (List.getElem?_eq_some_iff.1 this).1
      rw [List.getElem?_append_left hl]
      exact this
theorem hdL_cnt {X : List Ins} {n : Nat} (hn : n < X.length) (h : hdB X n = true) : cntH X n < (hdL X).length ∧ (hdL X).getD (cntH X n) 0 = n := by
  have := hd_get (hdB X) X.length n hn h
  have hl := (List.getElem?_eq_some_iff.1 this).1
  refine ⟨by simpa [hdL, cntH] using hl, ?_⟩
  unfold hdL cntH
  simp [List.getD, this]
theorem cutL_end (X : List Ins) : (cutL X).getD (hdL X).length 0 = X.length := by
  unfold cutL
  simp [List.getD]
theorem blkL_len (X : List Ins) : (blkL X).length = (hdL X).length := blkN_len _ _
theorem blkL_at (X : List Ins) (j : Nat) (hj : j < (hdL X).length) : (blkL X).getD j (0, 0) = ((cutL X).getD j 0, (cutL X).getD (j + 1) 0) := by
  unfold blkL blkN
  simp [List.getD, hj]
theorem hdL_pos {X : List Ins} (h : 0 < X.length) : 0 < (hdL X).length := by
  have := (hdL_cnt h ((hdB_iff X 0).2 (.inl rfl))).1
  omega

/-- Between two cuts that follow one another none stands. -/
theorem gap {C : List Int} (hs : C.Pairwise (· < ·)) {j : Nat} (hj : j + 1 < C.length) {x : Int} (h1 : C.getD j 0 < x) (h2 : x < C.getD (j + 1) 0) : x ∉ C := by
  intro hx
  obtain ⟨i, hi, rfl⟩ := List.mem_iff_getElem.1 hx
  have ej : C.getD j 0 = C[j] := by simp [List.getD, show j < C.length by omega]
  have ej1 : C.getD (j + 1) 0 = C[j + 1] := by simp [List.getD, hj]
  rw [ej] at h1
  rw [ej1] at h2
  rw [List.pairwise_iff_getElem] at hs
  rcases Nat.lt_trichotomy i j with h | h | h
  · have := hs i j hi (by omega) h; omega
  · subst h; omega
  · rcases Nat.lt_trichotomy i (j + 1) with k | k | k
    · omega
    · subst k; omega
    · have := hs (j + 1) i hj hi k; omega
theorem cut_mono {C : List Int} (hs : C.Pairwise (· < ·)) {i j : Nat} (h : i < j) (hj : j < C.length) : C.getD i 0 < C.getD j 0 := by
  rw [List.pairwise_iff_getElem] at hs
  have ei : C.getD i 0 = C[i] := by simp [List.getD, show i < C.length by omega]
  have ej : C.getD j 0 = C[j] := by simp [List.getD, hj]
  rw [ei, ej]
  exact hs i j (by omega) hj h
theorem cutL_zero (X : List Ins) : (cutL X).getD 0 0 = 0 := by
  by_cases h : 0 < X.length
  · obtain ⟨a, b⟩ := hdL_cnt h ((hdB_iff X 0).2 (.inl rfl))
    have e : cntH X 0 = 0 := rfl
    rw [e] at a b
    rw [cutL_at X 0 a]
    exact b
  · have e : X = [] := by cases X with
      | nil => rfl
      | cons y r => simp at h
    subst e
    rfl

theorem heads_no (X : List Ins) (v : Value) (w : World) (hl : X.length ≤ 4096) (hv : Code w v X) (hf : fitB X = false) :
    Calls Try.prog 17 #[v] w fun e w' => ∃ ao c, e = .returned (.slice ao 0 c) ∧ Bel w w' := by
  refine (heads_any X v w hl hv).mono ?_
  rw [hf, if_neg (by decide)]
  rintro e w' ⟨u, rfl, ⟨ao, c, rfl, _⟩, hB⟩
  exact ⟨ao, c, rfl, hB⟩
theorem blocks_no (X : List Ins) (v : Value) (w : World) (hl : X.length ≤ 4096) (hv : Code w v X) (hf : fitB X = false) :
    Calls Try.prog 18 #[v] w fun e w' => ∃ ao c, e = .returned (.slice ao 0 c) ∧ Bel w w' := by
  refine (blocks_any X v w hl hv).mono ?_
  rw [hf, if_neg (by decide)]
  rintro e w' ⟨u, rfl, ⟨ao, c, rfl, _⟩, hB⟩
  exact ⟨ao, c, rfl, hB⟩
theorem heads_yes (X : List Ins) (v : Value) (w : World) (hl : X.length ≤ 4096) (hv : Code w v X) (hf : fitB X = true) :
    Calls Try.prog 17 #[v] w fun e w' => ∃ ao c, e = .returned (.slice ao (hdL X).length c) ∧ (0 < (hdL X).length → ∃ b o, ao = some ⟨b, o, none⟩ ∧ b < w'.heap.size ∧ ∀ j, j < (hdL X).length → w'.cell? ⟨b, o + j, none⟩ = some (.int .i64 ((hdL X).getD j 0))) ∧ Bel w w' := by
  refine (heads_any X v w hl hv).mono ?_
  rw [hf, if_pos rfl]
  rintro e w' ⟨u, rfl, ⟨ao, c, rfl, r⟩, hB⟩
  exact ⟨ao, c, rfl, r, hB⟩
theorem blocks_yes (X : List Ins) (v : Value) (w : World) (hl : X.length ≤ 4096) (hv : Code w v X) (hf : fitB X = true) :
    Calls Try.prog 18 #[v] w fun e w' => ∃ ao c, e = .returned (.slice ao (hdL X).length c) ∧ (0 < (hdL X).length → ∃ b o, ao = some ⟨b, o, none⟩ ∧ b < w'.heap.size ∧
      ∀ j, j < (hdL X).length → w'.cell? ⟨b, o + j * 2, none⟩ = some (.int .i64 ((cutL X).getD j 0)) ∧ w'.cell? ⟨b, o + j * 2 + 1, none⟩ = some (.int .i64 ((cutL X).getD (j + 1) 0))) ∧ Bel w w' := by
  refine (blocks_any X v w hl hv).mono ?_
  rw [hf, if_pos rfl]
  rintro e w' ⟨u, rfl, ⟨ao, c, rfl, r⟩, hB⟩
  rw [blkL_len] at *
  refine ⟨ao, c, rfl, fun hn => ?_, hB⟩
  obtain ⟨b, o, e1, hb, hc⟩ := r hn
  refine ⟨b, o, e1, hb, fun j hj => ?_⟩
  have := hc j hj
  rw [blkL_at X j hj] at this
  exact this
end Go.Proofs.Ytdhnlloohjehgaa
