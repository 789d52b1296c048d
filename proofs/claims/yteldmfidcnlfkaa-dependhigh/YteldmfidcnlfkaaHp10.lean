/-
  'append(dst, src...)' of instructions as a step of a region that draws its order.
-/
import Derived.Test.YteldmfidcnlfkaaApp9
import Derived.Deep.RegionLaw
namespace Go.Proofs.Yteldmfidcnlfkaa
set_option maxRecDepth 20000
open Go.ChangeShapes Go.WideShapes Go.ChangeAt Go.RowKit Go.Deep
set_option linter.unusedVariables false
/-- A row of instructions is as it was where nothing that was there has turned. -/
theorem own5_bel {n₀ : Nat} {W W' : World} {v : Value} {n : Nat} {xs : List Value} (h : W.ownsRow n₀ 23 5 v n xs) (hb : Bel W W') : W'.ownsRow n₀ 23 5 v n xs := by
  refine ⟨h.1, ?_⟩
  rcases h.2 with hn | ⟨g, cap, cur, rfl, hlo, hgg, rest⟩
  · exact .inl hn
  · exact .inr ⟨g, cap, cur, rfl, hlo, (hb.out.block g (lt_of_heap hgg)).trans hgg, rest⟩
set_option maxRecDepth 100000 in
theorem step_code {ops : Array Oper} {o : Oper} {a : Act} {K : Act → World → Prop} {Q : Exit → Act → World → Prop} {E : Prop} (w : World) (hgd : o.guard = none) (s x : Operand)
    (ho : o.op = .call { callee := .builtin .append, args := #[s, x], argTypes := #[27, 27] })
    (base : Nat) (v : Value) (Y X : List Ins) (hs : a.eval s = v) (hown : w.ownsRow base 23 5 v Y.length (flatC Y)) (hv : ∃ g cap, v = .slice (some ⟨g, 0, none⟩) Y.length cap)
    (ao : Option Addr) (c : Nat) (hx : a.eval x = .slice ao X.length c) (hcode : 0 < X.length → ∃ b o, ao = some ⟨b, o, none⟩ ∧ b < w.heap.size ∧ CodeAt w b o X)
    (n : Nat) (hn : n = Y.length + X.length) (hlen : Y.length + X.length ≤ 10000) (hbase : base ≤ w.heap.size)
    (h : ∀ g cap w', w'.ownsRow base 23 5 (.slice (some ⟨g, 0, none⟩) (Y ++ X).length cap) (Y ++ X).length (flatC (Y ++ X)) → w.grownBy w' v.ownBlock → K (a.put o.dst (.slice (some ⟨g, 0, none⟩) n cap)) w') :
    if Region.wanted o (yielded ops a.tmps) = true then Oper.wp Try.prog o a w K Q else E := by
  subst hn
  obtain ⟨i0, hi, hz0, hz1, hz2⟩ := info_parts instrInfo
  have hw : Region.wanted o (yielded ops a.tmps) = true := by simp [Region.wanted, hgd]
  rw [if_pos hw]
  by_cases hX : 0 < X.length
  · obtain ⟨b, o', rfl, hb, hc⟩ := hcode hX
    refine wp_append_lies w s x 27 ho base 23 i0 _ 5 40 Try.underlying27 hi hz0 hz1 hz2 rfl (by decide) v Y.length (flatC Y) hs hown ⟨b, o', none⟩ X.length c (flatC X) hx (flatC_len X) (cell_of_flat hc) (flatC_one X) hX (by unfold maxLen; omega) (by omega) hbase _ rfl ?_
    intro g cap w' h1 h2 _ _
    refine h g cap w' ?_ h2
    rw [flatC_append, List.length_append]
    exact h1
  · have hX0 : X = [] := by
      cases X with
      | nil => rfl
      | cons y r => exact absurd (show 0 < (y :: r).length by simp) hX
    subst hX0
    obtain ⟨g, cap, rfl⟩ := hv
    have hroom : Y.length + 0 ≤ cap := by
      rcases hown.2 with ⟨e, _⟩ | ⟨_, _, _, e, _, _, h2, _⟩
      · cases e
      · cases e; exact h2
    have hsrc : Src Try.prog i0.size 27 (.slice ao 0 c) 0 [] w := by
      cases ao with
      | none => exact Src.ofNil w Try.underlying27 c
      | some ad => exact Src.ofSlice w Try.underlying27 ad 0 c [] (by simp) (fun j u hj => by simp at hj) (fun u hu => by simp at hu)
    have hr := run_append_room_src (P := Try.prog) w 27 27 o.type 23 i0 Try.underlying27 hi g 0 Y.length cap (.slice ao 0 c) 0 [] hsrc hroom (fun j hj => absurd hj (by simp)) (fun j hj => absurd hj (by simp))
    unfold Oper.wp execOp
    simp only [ho, resolve, invoke, builtin, Sem.run_bind, Sem.run_pure, Result.andThen_ok, List.map_toArray, List.map_cons, List.map_nil, hs]
    rw [show a.eval x = .slice ao 0 c from hx, hr]
    refine h g cap _ ?_ ?_
    · simpa [flatC, World.setCells] using hown
    · exact ⟨rfl, rfl, rfl, by simp [World.setCells], fun k _ _ => by simp [World.setCells]⟩
end Go.Proofs.Yteldmfidcnlfkaa
