/-
  'append' of a slice of instructions to one that the call made (of App7, without machines).
-/
import Derived.Test.YtfhepjjebadpdaaLit
import Derived.Deep.AppendSrc
import Derived.Deep.AppendLies
namespace Go.Proofs.Ytfhepjjebadpdaa
set_option maxRecDepth 20000
open Go.ChangeShapes Go.WideShapes Go.ChangeAt Go.RowKit Go.Deep
set_option linter.unusedVariables false

def cells5 (x : Ins) : List Value := [.int .i64 x.o, .int .i64 x.a, .int .i64 x.b, .int .i64 x.c, .int .i64 x.i]
def flatC (X : List Ins) : List Value := X.flatMap cells5
theorem flatC_len (X : List Ins) : (flatC X).length = X.length * 5 := by
  induction X with
  | nil => rfl
  | cons x r ih => simp only [flatC, List.flatMap_cons, List.length_append, List.length_cons] at ih ⊢; rw [ih]; simp [cells5]; omega
theorem flatC_append (X Y : List Ins) : flatC (X ++ Y) = flatC X ++ flatC Y := List.flatMap_append
theorem flatC_at (X : List Ins) : ∀ (j i : Nat), i < 5 → j < X.length → (flatC X)[j * 5 + i]? = (cells5 (X.getD j Ins.zero))[i]? := by
  induction X with
  | nil => intro j i _ hj; simp at hj
  | cons x r ih =>
    intro j i hi hj
    have hc : (cells5 x).length = 5 := rfl
    cases j with
    | zero =>
      show (cells5 x ++ flatC r)[0 * 5 + i]? = _
      rw [List.getElem?_append_left (by rw [hc]; omega)]
      simp
    | succ j =>
      show (cells5 x ++ flatC r)[(j + 1) * 5 + i]? = _
      rw [List.getElem?_append_right (by rw [hc]; omega), hc, show (j + 1) * 5 + i - 5 = j * 5 + i by omega, ih j i hi (by simpa using hj)]
      simp
theorem cell_of_flat {w : World} {b o : Nat} {X : List Ins} (h : CodeAt w b o X) : ∀ j u, (flatC X)[j]? = some u → w.cell? ((⟨b, o, none⟩ : Addr).add j) = some u := by
  intro j u hj
  have hlt : j < X.length * 5 := by rw [← flatC_len]; exact (List.getElem?_eq_some_iff.1 hj).1
  have hq : j / 5 < X.length := by omega
  have e : j = j / 5 * 5 + j % 5 := by omega
  have hm : j % 5 < 5 := by omega
  rw [add_none]
  rw [e, flatC_at X _ _ hm hq] at hj
  obtain ⟨h0, h1, h2, h3, h4⟩ := h (j / 5) hq
  have hc : j % 5 = 0 ∨ j % 5 = 1 ∨ j % 5 = 2 ∨ j % 5 = 3 ∨ j % 5 = 4 := by omega
  rw [e]
  generalize j / 5 = q at *
  rcases hc with hc | hc | hc | hc | hc <;> rw [hc] at hj ⊢ <;> injection hj with hj <;> subst hj <;> assumption
theorem flatC_one (X : List Ins) : ∀ u ∈ flatC X, u.oneCell' = true := by
  intro u hu
  obtain ⟨x, _, hx⟩ := List.mem_flatMap.1 hu
  simp only [cells5, List.mem_cons, List.not_mem_nil, or_false] at hx
  rcases hx with rfl | rfl | rfl | rfl | rfl <;> rfl
theorem instrInfo : (Try.prog.info? 31).map (fun i => (i.zero, i.size, i.bytes)) = some (some (.agg #[.int .i64 0, .int .i64 0, .int .i64 0, .int .i64 0, .int .i64 0]), 5, 40) := by kernel_rfl
set_option maxRecDepth 100000 in
/-- One 'append(dst, src...)', dst a row of instructions that the call made, src whatever slice of them. -/
theorem append_code {ops : Array Oper} {rest : List Oper} {o : Oper} {a : Act} {Q : Exit → Act → World → Prop} (w : World) (hgd : o.guard = none) (s x : Operand)
    (ho : o.op = .call { callee := .builtin .append, args := #[s, x], argTypes := #[22, 22] })
    (base : Nat) (v : Value) (Y X : List Ins) (hs : a.eval s = v) (hown : w.ownsRow base 31 5 v Y.length (flatC Y)) (hv : ∃ g cap, v = .slice (some ⟨g, 0, none⟩) Y.length cap)
    (ao : Option Addr) (c : Nat) (hx : a.eval x = .slice ao X.length c) (hcode : 0 < X.length → ∃ b o, ao = some ⟨b, o, none⟩ ∧ b < w.heap.size ∧ CodeAt w b o X)
    (hlen : Y.length + X.length ≤ 10000) (hbase : base ≤ w.heap.size)
    (h : ∀ v' w', w'.ownsRow base 31 5 v' (Y ++ X).length (flatC (Y ++ X)) → (∃ g cap, v' = .slice (some ⟨g, 0, none⟩) (Y ++ X).length cap) → w.grownBy w' v.ownBlock → wpList Try.prog ops Q rest (a.put o.dst v') w') : wpList Try.prog ops Q (o :: rest) a w := by
  obtain ⟨i0, hi, hz0, hz1, hz2⟩ := info_parts instrInfo
  have form : ∀ (v' : Value) (w' : World), w'.ownsRow base 31 5 v' (Y ++ X).length (flatC (Y ++ X)) → (v' = .slice none 0 0 ↔ v = .slice none 0 0 ∧ X.length = 0) → ∃ g cap, v' = .slice (some ⟨g, 0, none⟩) (Y ++ X).length cap := by
    intro v' w' h1 h2
    rcases h1.2 with ⟨e1, _⟩ | ⟨g, cap, cur, e1, _⟩
    · obtain ⟨g, cap, e⟩ := hv
      rw [(h2.1 e1).1] at e
      cases e
    · exact ⟨g, cap, e1⟩
  have fin : ∀ v' w', w'.ownsRow base 31 5 v' (Y.length + X.length) (flatC Y ++ flatC X) → w.grownBy w' v.ownBlock → (v' = .slice none 0 0 ↔ v = .slice none 0 0 ∧ X.length = 0) → wpList Try.prog ops Q rest (a.put o.dst v') w' := by
    intro v' w' h1 h2 h3
    rw [← flatC_append, ← List.length_append] at h1
    exact h v' w' h1 (form v' w' h1 h3) h2
  cases ao with
  | some ad =>
    refine wpList_append_own _ hgd s x 22 ho base 31 i0 _ 5 40 Try.underlying22 hi hz0 hz1 hz2 rfl (by decide) v Y.length (flatC Y) hs hown ad X.length c (flatC X) hx (flatC_len X) ?_ (flatC_one X) (by unfold maxLen; omega) (by omega) hbase fin
    intro j u hj
    have hpos : 0 < X.length := by
      have := (List.getElem?_eq_some_iff.1 hj).1
      rw [flatC_len] at this
      omega
    obtain ⟨b, o', e, _, hc⟩ := hcode hpos
    injection e with e
    subst e
    exact cell_of_flat hc j u hj
  | none =>
    have hX : X = [] := by
      cases X with
      | nil => rfl
      | cons y r => obtain ⟨_, _, e, _⟩ := hcode (by simp); cases e
    subst hX
    obtain ⟨g, cap, rfl⟩ := hv
    have hroom : Y.length + 0 ≤ cap := by
      rcases hown.2 with ⟨e, _⟩ | ⟨_, _, _, e, _, _, h2, _⟩
      · cases e
      · cases e; exact h2
    have hr := run_append_room_src (P := Try.prog) w 22 22 o.type 31 i0 Try.underlying22 hi g 0 Y.length cap (.slice none 0 c) 0 [] (Src.ofNil w Try.underlying22 c) hroom (fun j hj => absurd hj (by simp)) (fun j hj => absurd hj (by simp))
    refine wpList_plain hgd fun K hK => ?_
    unfold Oper.wp execOp
    simp only [ho, resolve, invoke, builtin, Sem.run_bind, Sem.run_pure, Result.andThen_ok, List.map_toArray, List.map_cons, List.map_nil, hs]
    rw [show a.eval x = .slice none 0 c from hx, hr]
    refine hK _ _ (fin _ _ ?_ ?_ ?_)
    · simpa [flatC, World.setCells] using hown
    · exact ⟨rfl, rfl, rfl, by simp [World.setCells], fun k _ _ => by simp [World.setCells]⟩
    · simp
theorem code_of_own {w : World} {base : Nat} {v : Value} {X : List Ins} (h : w.ownsRow base 31 5 v X.length (flatC X)) (hv : ∃ g cap, v = .slice (some ⟨g, 0, none⟩) X.length cap) : Code w v X := by
  obtain ⟨g, cap, rfl⟩ := hv
  refine ⟨_, cap, rfl, fun hn => ⟨g, 0, rfl, ?_, ?_⟩⟩
  · exact (h.lt g rfl).2
  · intro j hj
    have hc := h.cells (g := g) rfl
    have hf := fun i hi => flatC_at X j i hi hj
    have g0 := hc (j * 5 + 0) _ (hf 0 (by omega))
    have g1 := hc (j * 5 + 1) _ (hf 1 (by omega))
    have g2 := hc (j * 5 + 2) _ (hf 2 (by omega))
    have g3 := hc (j * 5 + 3) _ (hf 3 (by omega))
    have g4 := hc (j * 5 + 4) _ (hf 4 (by omega))
    rw [add_none] at g0 g1 g2 g3 g4
    rw [Nat.add_zero] at g0
    simp only [Nat.zero_add] at g0 g1 g2 g3 g4 ⊢
    exact ⟨g0, g1, g2, g3, g4⟩
theorem own_none (w : World) (e : TypeId) (n : Nat) : (w.alloc (.cells #[] e)).ownsRow w.heap.size e n (.slice (some ⟨w.heap.size, 0, none⟩) 0 0) 0 [] := World.ownsRow_made w #[] 0 (Nat.le_refl _) (Nat.zero_le _) (by simp)
theorem code_at {w : World} {ao : Option Addr} {cap : Nat} {X : List Ins} (h : Code w (.slice ao X.length cap) X) : 0 < X.length → ∃ b o, ao = some ⟨b, o, none⟩ ∧ b < w.heap.size ∧ CodeAt w b o X := by
  obtain ⟨ao', cap', e, h⟩ := h
  cases e
  exact h
theorem own_lit (w : World) (X : List Ins) (n : Nat) (hX : X.length = n) (hn : n ≤ 1000) : (w.alloc (.cells (flatC X).toArray 31)).ownsRow w.heap.size 31 5 (.slice (some ⟨w.heap.size, 0, none⟩) n n) X.length (flatC X) := by
  subst hX
  refine ⟨flatC_len X, .inr ⟨w.heap.size, X.length, (flatC X).toArray, rfl, Nat.le_refl _, heap_alloc_new w _, Nat.le_refl _, by unfold maxLen; omega, ?_, ?_⟩⟩
  · simp [flatC_len]
  · rw [← flatC_len]; simp
end Go.Proofs.Ytfhepjjebadpdaa
