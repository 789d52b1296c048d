/-
  Lists of which none must stay ahead of another one; one instruction alone.
-/
import Derived.Test.YtpmofaajkhllpaaLw11
import Derived.Test.YtpmofaajkhllpaaPn10
namespace Go.Proofs.Ytpmofaajkhllpaa
set_option maxRecDepth 20000
set_option linter.unusedVariables false
open Go.ChangeShapes Go.WideShapes Go.ChangeAt Go.RowKit

/-- The first k ones need not stay ahead of any later one. -/
def FreeK (X : List Ins) (k : Nat) : Prop := ∀ a b, a < k → a < b → b < X.length → ¬ 0 < farI (xAt X a) (xAt X b)
def RowF (X : List Ins) (k m : Nat) : Prop := ∀ b, k < b → b < m → ¬ 0 < farI (xAt X k) (xAt X b)
theorem freeK_zero (X : List Ins) : FreeK X 0 := fun a b h => absurd h (Nat.not_lt_zero _)
theorem rowF_start (X : List Ins) (k : Nat) : RowF X k (k + 1) := fun b h1 h2 => by omega
theorem rowF_step {X : List Ins} {k m : Nat} (h : RowF X k m) (hf : ¬ 0 < farI (xAt X k) (xAt X m)) : RowF X k (m + 1) := fun b h1 h2 => by
  by_cases e : b = m
  · subst e; exact hf
  · exact h b h1 (by omega)
theorem freeK_step {X : List Ins} {k : Nat} (h : FreeK X k) (hr : RowF X k X.length) : FreeK X (k + 1) := fun a b h1 h2 h3 => by
  by_cases e : a = k
  · subst e; exact hr b h2 h3
  · exact h a b (by omega) h2 h3
theorem hgt_free {X : List Ins} (h : FreeK X X.length) (k : Nat) (hk : k < X.length) : hAt X k = 0 := by
  have h1 := (hgt_bd X k hk).1
  have h2 := (most_le (X.getD k Ins.zero) X (fun j => (hgt X).getD j 0) 0 (Int.le_refl _) (k + 1)).2 fun j hj hjX hf => absurd hf (h k j hk (by omega) hjX)
  rw [← hgt_at X k hk] at h2
  unfold hAt
  omega
theorem plain_stands (n j : Nat) : Stands (plainL n) j ↔ j < n := by
  unfold Stands
  rw [where_mem]
  constructor
  · intro h
    obtain ⟨p, hp, e⟩ := List.mem_iff_getElem.1 h
    rw [plainL_len] at hp
    have := plainL_at n p hp
    rw [show (plainL n).getD p 0 = (plainL n)[p]'(by rw [plainL_len]; exact hp) by simp [List.getD, plainL_len, hp]] at this
    omega
  · intro h
    have e := plainL_at n j h
    rw [← e, show (plainL n).getD j 0 = (plainL n)[j]'(by rw [plainL_len]; exact h) by simp [List.getD, plainL_len, h]]
    exact List.getElem_mem _
theorem free_ord {X : List Ins} (h : FreeK X X.length) : OrdS X (plainL X.length) := by
  have key : ∀ k, k ≤ X.length → Steps X (plainL k) := by
    intro k
    induction k with
    | zero => intro _; exact .nil
    | succ k ih =>
      intro hk
      have hn : ¬ Stands (plainL k) k := by rw [plain_stands]; omega
      refine .snoc (ih (by omega)) ⟨k, hk, hn⟩ (.inr ⟨k, rfl, hk, ⟨hn, fun i hi hf => absurd hf (h i k (by omega) hi hk)⟩, fun j hj hr => ?_⟩)
      have hjk : k ≤ j := by
        have := hr.1
        rw [plain_stands] at this
        omega
      have e1 := hgt_free h k hk
      have e2 := hgt_free h j hj
      refine .inr ⟨?_, ?_⟩
      · show hAt X k = hAt X j
        rw [e1, e2]
      · show (k : Int) ≤ j
        omega
  exact ⟨key _ (Nat.le_refl _), fun j hj => (plain_stands _ _).2 hj⟩
theorem free_one (x : Ins) : FreeK [x] [x].length := fun a b h1 h2 h3 => by simp at h3; omega
theorem ord_alone {x : Ins} {Z : List Int} (h : OrdS [x] Z) : Z = [0] := ord_one h (free_ord (free_one x))
theorem ord_none {Z : List Int} (h : OrdS [] Z) : Z = [] := ord_one h (free_ord (X := []) (fun a b h1 h2 h3 => by simp at h3))
theorem lay_alone {x : Ins} {M : List Int} (h : LayS [x] M) : M = if x.goes = true ∨ x.late = true then [0, -1] else [0] := by
  rcases h with ⟨h, _⟩ | ⟨_, hg, Z, hZ, rfl⟩ | ⟨_, hg, Z, hZ, rfl⟩
  · cases h
  · have e := ord_none hZ
    subst e
    rw [show xAt [x] ([x].length - 1) = x from rfl] at hg
    rw [if_pos (.inl hg)]
    rfl
  · have e := ord_alone hZ
    subst e
    rw [show xAt [x] ([x].length - 1) = x from rfl] at hg
    rw [show xAt [x] (lastI [0]).toNat = x from rfl]
    cases hl : x.late <;> simp [hg]
/-- What the order of such a list holds. -/
theorem free_end {X : List Ins} {Z : List Int} {n : Nat} {W : World} {v : Value} (h : FreeK X X.length) (hz : OrdS X Z) (ho : OwnI n W v Z) :
    ∃ a c, v = .slice a X.length c ∧ ∀ k, k < X.length → ∃ bo, a = some ⟨bo, 0, none⟩ ∧ bo < W.heap.size ∧ W.cell? ⟨bo, k, none⟩ = some (.int .i64 k) := by
  obtain rfl := ord_one hz (free_ord h)
  have hl := plainL_len X.length
  obtain ⟨a, c, e1, hcz⟩ := own_ints ho
  obtain ⟨a2, c2, e2⟩ := ownI_form ho
  rw [e1] at e2
  cases e2
  refine ⟨a, c, by rw [e1, hl], fun k hk => ?_⟩
  obtain ⟨bo, oo, rfl, hbo, hcz⟩ := hcz (by omega)
  have hoo : oo = 0 := by
    rw [e1] at ho
    rcases ho.2 with ⟨q, _⟩ | ⟨_, _, _, q, _⟩
    · cases q
    · cases q; rfl
  subst hoo
  refine ⟨bo, rfl, hbo, ?_⟩
  have := hcz k (by omega)
  rw [Nat.zero_add, show (plainL X.length)[k]?.getD 0 = (plainL X.length).getD k 0 from rfl, plainL_at _ _ hk] at this
  exact this
end Go.Proofs.Ytpmofaajkhllpaa
