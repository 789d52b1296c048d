/-
  'append(dst, src...)' of ints: dst nil or a row that the call made, src nil or a row.
-/
import Derived.Test.YtpmofaajkhllpaaAl
import Derived.Test.YtpmofaajkhllpaaSl6
import Derived.Deep.AppendSrc
import Derived.Maps.AppendAt
namespace Go.Proofs.Ytpmofaajkhllpaa
set_option maxRecDepth 20000
set_option linter.unusedVariables false
open Go.ChangeShapes Go.WideShapes Go.ChangeAt Go.RowKit Go.Deep

abbrev OwnI (n₀ : Nat) (W : World) (v : Value) (L : List Int) : Prop := W.ownsRow n₀ 3 1 v L.length (L.map (Value.int .i64))
theorem ownI_nil (n₀ : Nat) (W : World) : OwnI n₀ W (.slice none 0 0) [] := World.ownsRow_nil W n₀ 3 1
theorem ownI_kept {S : Nat → Obj → Prop} {n₀ : Nat} {W W' : World} {v : Value} {L : List Int} (h : OwnI n₀ W v L) (hk : Kept S W W') (hs : ∀ g c f, v.ownBlock = some g → ¬ S g (.cells c 3 f)) : OwnI n₀ W' v L := row_kept h hk hs
theorem ownI_block {n₀ : Nat} {W : World} {v : Value} {L : List Int} (h : OwnI n₀ W v L) : ∀ g, v.ownBlock = some g → n₀ ≤ g ∧ ∃ cur, W.heap[g]? = some (.cells cur 3) := by
  intro g hg
  rcases h.2 with ⟨rfl, _⟩ | ⟨g', cap, cur, rfl, hb, hgg, rest⟩
  · cases hg
  · obtain rfl : g' = g := by simpa [Value.ownBlock] using hg
    exact ⟨hb, cur, hgg⟩
theorem ownI_form {n₀ : Nat} {W : World} {v : Value} {L : List Int} (h : OwnI n₀ W v L) : ∃ ao cap, v = .slice ao L.length cap := by
  rcases h.2 with ⟨rfl, h0⟩ | ⟨g, cap, cur, rfl, _⟩
  · exact ⟨none, 0, by rw [h0]⟩
  · exact ⟨_, cap, rfl⟩
theorem run_append_row (w : World) (ty : TypeId) (base b2 : Nat) (v u : Value) (Y L : List Int) (hown : OwnI base w v Y) (hsrc : OwnI b2 w u L) (hlen : Y.length + L.length ≤ 100000000) (hbase : base ≤ w.heap.size) :
    ∃ v' w', (Builtin.append_ #[25, 25] ty #[v, u]).run Try.prog w = .ok v' w' ∧ OwnI base w' v' (Y ++ L) ∧ w.grownBy w' v.ownBlock ∧ (v'.ownBlock = v.ownBlock ∨ v'.ownBlock = some w.heap.size) := by
  obtain ⟨i0, hi, hz0, hz1, hz2⟩ := info_parts intInfo
  rcases hsrc.2 with ⟨rfl, h0⟩ | ⟨g, cap, cur, rfl, hb, hg, h1, h2, h3, h4⟩
  · have hL : L = [] := List.eq_nil_of_length_eq_zero h0
    subst hL
    rcases hown.2 with ⟨rfl, hy0⟩ | ⟨g, cap, cur, rfl, hb, hg, h1, h2, h3, h4⟩
    · have hY : Y = [] := List.eq_nil_of_length_eq_zero hy0
      subst hY
      refine ⟨.slice none 0 0, w, ?_, ownI_nil _ _, ⟨rfl, rfl, rfl, Nat.le_refl _, fun _ _ _ => rfl⟩, .inl rfl⟩
      simp [Builtin.append_, run_underlying Try.underlying25, sizeOf, typeInfo, hi, Builtin.lenOf, Builtin.firstCells]
    · have hr := run_append_room_src (P := Try.prog) w 25 25 ty 3 i0 Try.underlying25 hi g 0 Y.length cap (.slice none 0 0) 0 [] (Src.ofNil w Try.underlying25 0) (by omega) (fun j hj => absurd hj (by simp)) (fun j hj => absurd hj (by simp))
      refine ⟨_, _, hr, ?_, ⟨rfl, rfl, rfl, by simp [World.setCells], fun k _ _ => by simp [World.setCells]⟩, .inl rfl⟩
      simpa [World.setCells] using hown
  · obtain ⟨v', w', q1, q2, q3, _, q5⟩ := run_append_own_at (P := Try.prog) w base 25 ty 3 i0 _ 1 8 Try.underlying25 hi hz0 hz1 hz2 rfl (by decide) v Y.length (Y.map (Value.int .i64)) hown ⟨g, 0, none⟩ L.length cap (L.map (Value.int .i64)) (by simp) (hsrc.cells (g := g) rfl)
      (fun x hx => by obtain ⟨y, _, rfl⟩ := List.mem_map.1 hx; rfl) (by unfold maxLen; omega) (by omega) hbase
    refine ⟨v', w', q1, ?_, q3, q5⟩
    unfold OwnI
    rw [List.length_append, List.map_append]
    exact q2
theorem wpList_append_row {ops : Array Oper} {rest : List Oper} {o : Oper} {a : Act} {Q : Exit → Act → World → Prop} (w : World) (hgd : o.guard = none) (s x : Operand)
    (ho : o.op = .call { callee := .builtin .append, args := #[s, x], argTypes := #[25, 25] }) (base b2 : Nat) (v u : Value) (Y L : List Int) (hs : a.eval s = v) (hx : a.eval x = u) (hown : OwnI base w v Y) (hsrc : OwnI b2 w u L) (hlen : Y.length + L.length ≤ 100000000) (hbase : base ≤ w.heap.size)
    (h : ∀ v' w', OwnI base w' v' (Y ++ L) → w.grownBy w' v.ownBlock → (v'.ownBlock = v.ownBlock ∨ v'.ownBlock = some w.heap.size) → wpList Try.prog ops Q rest (a.put o.dst v') w') : wpList Try.prog ops Q (o :: rest) a w := by
  refine wpList_plain hgd fun K hK => ?_
  obtain ⟨v', w', hr, h2, h3, h4⟩ := run_append_row w o.type base b2 v u Y L hown hsrc hlen hbase
  unfold Oper.wp execOp
  simp only [ho, resolve, invoke, builtin, Sem.run_bind, Sem.run_pure, Result.andThen_ok, List.map_toArray, List.map_cons, List.map_nil, hs, hx, hr]
  exact hK _ _ (h v' w' h2 h3 h4)
end Go.Proofs.Ytpmofaajkhllpaa
