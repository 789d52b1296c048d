/-
  What the reference's Sys 2 does: its Effect.
-/
import Derived.Test.YtmgpfhmodjmcdaaRe2
namespace Go.Proofs.Ytmgpfhmodjmcdaa
set_option maxRecDepth 20000
set_option linter.unusedVariables false
open Go.ChangeShapes Go.WideShapes Go.ChangeAt Go.RowKit

section
variable {A W : World} {b gr gm : Nat} {ov : Value} {I : List Int} {s : St} {rd : Nat} {t : Int}
theorem IsR.wrote {W' : World} (h : IsR A W b gr gm ov I s rd t) (x : Int) (u : Obj) (g' cap : Nat)
    (hown : W'.ownsRow A.heap.size 3 1 (.slice (some ⟨g', 0, none⟩) (s.out.length + 1) cap) (s.out.length + 1) (s.out.map (Value.int .i64) ++ [.int .i64 x])) (hg : (W.alloc u).grownBy W' ov.ownBlock) (hat : ov.ownBlock = some g' ∨ g' = W.heap.size + 1) (hl : s.out.length < 10000) :
    IsR A (W'.setCell ⟨b, 4, none⟩ (.slice (some ⟨g', 0, none⟩) (s.out.length + 1) cap)) b gr gm (.slice (some ⟨g', 0, none⟩) (s.out.length + 1) cap) I { s with out := s.out ++ [x] } rd t ∧ Kept (MutR A.heap.size) W (W'.setCell ⟨b, 4, none⟩ (.slice (some ⟨g', 0, none⟩) (s.out.length + 1) cap)) := by
  have hrow : ∀ k, ov.ownBlock = some k → (A.heap.size ≤ k ∧ k < W.heap.size) ∧ ∃ c f, W.heap[k]? = some (.cells c 3 f) := by
    intro k hk
    refine ⟨⟨(h.out.lt k hk).1, (h.out.lt k hk).2⟩, ?_⟩
    rcases h.out.2 with ⟨e1, e⟩ | ⟨g, cap, cur, e1, _, hg, _⟩
    · rw [e1] at hk; cases hk
    · rw [e1] at hk
      injection hk with hk
      subst hk
      exact ⟨_, _, hg⟩
  have hkeep : ∀ k o, W.heap[k]? = some o → ov.ownBlock ≠ some k → W'.heap[k]? = some o := fun k o hk hn =>
    (hg.block k (by have := lt_of_heap hk; simp; omega) (fun e => hn e.symm)).trans (heap_old hk)
  obtain ⟨n1, n2, n3⟩ := h.bne
  have lb := lt_of_heap h.box
  have lr := lt_of_heap h.rr
  have lm := lt_of_heap h.rm
  have hb' := hkeep b _ h.box n3
  have hgb : g' ≠ b := by
    rcases hat with e | e
    · intro e2; rw [e2] at e; exact n3 e
    · omega
  have hgr : g' ≠ gr := by
    rcases hat with e | e
    · intro e2; rw [e2] at e; exact h.apr e
    · omega
  have hgm : g' ≠ gm := by
    rcases hat with e | e
    · intro e2; rw [e2] at e; exact h.apm e
    · omega
  have hK : Kept (MutR A.heap.size) W W' := (Kept.alloc _ _ u).trans (Kept.grown hg (fun k o hk ho => by
    obtain ⟨⟨a1, a2⟩, c, f, e⟩ := hrow k hk
    exact mutR_row (heap_old e) a1 o ho))
  have hK2 : Kept (MutR A.heap.size) W (W'.setCell ⟨b, 4, none⟩ (.slice (some ⟨g', 0, none⟩) (s.out.length + 1) cap)) := hK.trans (Kept.setCell _ _ ⟨b, 4, none⟩ _ (fun o ho => by
    rw [hb'] at ho
    injection ho with ho
    subst ho
    exact ⟨h.low, .inl rfl⟩))
  refine ⟨⟨(heap_set_same hb').trans (by unfold refB; rfl), (heap_set_other n1).trans (hkeep gr _ h.rr h.apr), (heap_set_other n2).trans (hkeep gm _ h.rm h.apm), h.low, h.lowr, h.lowm, h.ne, ?_, ?_, ?_, keptR_bel h.bel hK2, ⟨h.ok.len, h.ok.words, h.ok.cells, h.ok.zero⟩, h.lenm, ?_, h.inp⟩, hK2⟩
  · have e1 : (s.out ++ [x]).length = s.out.length + 1 := by simp
    have e2 : (s.out ++ [x]).map (Value.int .i64) = s.out.map (Value.int .i64) ++ [.int .i64 x] := by simp
    show World.ownsRow _ _ _ _ _ (s.out ++ [x]).length ((s.out ++ [x]).map (Value.int .i64))
    rw [e1, e2]
    refine row_own hown ?_ 4 _
    intro e
    injection e with e
    exact hgb e
  · intro e
    injection e with e
    exact hgr e
  · intro e
    injection e with e
    exact hgm e
  · show (s.out ++ [x]).length ≤ 10000
    simp
    omega
set_option maxHeartbeats 2000000 in
theorem eff202 (h : IsR A W b gr gm ov I s rd t) (a xb xc va vb four : Int) (iv : Value) (hb : Wd vb) (hl : s.out.length < 10000) :
    Calls Try.prog 40 #[.pointer (some ⟨b, 0, none⟩), .agg #[.int .i64 20, .int .i64 a, .int .i64 xb, .int .i64 xc, .int .i64 2], .int .i64 va, .int .i64 vb, .int .i64 four, iv] W fun e W' =>
      e = .returned (.tuple #[.int .i64 0, .int .i64 0]) ∧ (∃ ov', IsR A W' b gr gm ov' I { s with out := s.out ++ [four] } rd t) ∧ Kept (MutR A.heap.size) W W' := by
  obtain ⟨b1, b2⟩ := hb
  have h1 := h.stay ((Bel.refl W).alloc (insB 20 a xb xc 2))
  obtain ⟨i0, hi0, hz0, hz1, hz2⟩ := info_parts intInfo
  obtain ⟨c0, c1, c2, c3, c4, c5⟩ := refB_cells h1.box
  have f4 := frozen_of h1.box 4
  obtain ⟨ao, co, e⟩ := row_slice h.out
  obtain ⟨n1, n2, n3⟩ := h1.bne
  have hown := h1.out
  have hbs := h1.bel.size
  have lb := lt_of_heap h1.box
  have HH := hidm h1
  have HK := hidm (Kept.alloc (MutR A.heap.size) W (insB 20 a xb xc 2))
  subst e
  unfold insB at c1 c4 f4 hown hbs lb
  have hl' : ¬ ((9999 : Int) < s.out.length) := by omega
  clear h h1 c0 c2 c3 c5 n1 n2
  rcases Int.lt_or_le (wrap32 (vb + 2)) 0 with hz | hz
  all_goals
    go_enter Try.func40, Try.ntmps40
    go_wp2_with (first
      | (go_at_call 21; refine (refWrap_any _ _ (by omega) (by omega)).mono ?_; rintro e w' ⟨rfl, rfl⟩)
      | (at_builtin; refine wpList_append_lies _ (by rfl) _ _ _ (by rfl) A.heap.size 3 i0 _ 1 8 Try.underlying23 hi0 hz0 hz1 hz2 rfl (by omega) _ _ _ (by rfl) (hown.alloc _) ⟨W.heap.size + 1, 0, none⟩ 1 1 [.int .i64 four] (by rfl) (by rfl) (World.news_of_block (cs := #[.int .i64 four]) (t := 3) (fr := (0, 0)) (by rw [show W.heap.size + 1 = (W.alloc (insB 20 a xb xc 2)).heap.size by simp]; exact heap_alloc_new _ _)) (by simp [Value.oneCell']) (by omega) (by unfold maxLen; omega) (by omega) (by simp; simp at hbs; omega) (W.heap.size + 1 + 1) (by simp) ?_; intro gg cap1 w1 hown1 hgrow hat hlt; have hb1 := (hgrow.block b (by simp; simp at lb; omega) (Ne.symm n3)).trans (heap_old (Hid.out HH).box); have f5 := frozen_of hb1 4; have c6 := (refB_cells hb1).2.2.2.2.1; clear hb1))
    go_ret2
    obtain ⟨r1, r2⟩ := (Hid.out HH).wrote four _ gg cap1 hown1 hgrow (by simpa using hat) hl
    exact ⟨rfl, ⟨_, r1⟩, (Hid.out HK).trans r2⟩
end
end Go.Proofs.Ytmgpfhmodjmcdaa
