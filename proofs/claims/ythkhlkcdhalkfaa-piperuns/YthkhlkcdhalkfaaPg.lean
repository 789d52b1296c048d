/-
  The machine of five stages: tell, system, act.
-/
import Derived.Test.YthkhlkcdhalkfaaPf
namespace Go.Proofs.Ythkhlkcdhalkfaa
set_option maxRecDepth 20000
set_option linter.unusedVariables false
open Go.ChangeShapes Go.WideShapes Go.ChangeAt Go.RowKit

section
variable {A W W' : World} {b bm g : Nat} {cv iv : Value} {X : List Ins} {p : Pt}
theorem tell_full (h : IsQ iv A W b bm g cv X p) (x : Int) (hf : 10000 ≤ p.st.out.length) :
    Calls Try.prog 77 #[.pointer (some ⟨b, 0, none⟩), .int .i64 x] W fun e W' => e = .returned (.int .i64 9) ∧ W' = W := by
  obtain ⟨ov, h⟩ := h
  obtain ⟨ao, cap, e, hc, hr⟩ : ∃ ao cap, ov = .slice ao p.st.out.length cap ∧ True ∧ True := by
    rcases h.out.2 with ⟨rfl, e⟩ | ⟨g, cap, cur, rfl, _⟩
    · exact ⟨none, 0, by rw [e], trivial, trivial⟩
    · exact ⟨_, _, rfl, trivial, trivial⟩
  have c1 : W.cell? ⟨b, 39, none⟩ = some ov := by rw [cell_of h.box]; exact boxP_at h.ok.ok.len 5
  rw [e] at c1
  have hf' : (10000 : Int) ≤ p.st.out.length := by omega
  go_enter Try.func77, Try.ntmps77
  go_wp2
  go_ret
  exact ⟨rfl, rfl⟩
theorem IsP.told {A W W' : World} {b bm g : Nat} {cv iv ov : Value} {X : List Ins} {p : Pt} (h : IsP A W b bm g cv iv ov X p) (x : Int) (u : Obj) (g' cap H : Nat) (hH : H = W.heap.size + 1)
    (hown : W'.ownsRow A.heap.size 3 1 (.slice (some ⟨g', 0, none⟩) (p.st.out.length + 1) cap) (p.st.out.length + 1) (p.st.out.map (Value.int .i64) ++ [.int .i64 x])) (hg : (W.alloc u).grownBy W' ov.ownBlock) (hat : ov.ownBlock = some g' ∨ g' = H) (hl : p.st.out.length < 10000) :
    IsP A (W'.setCell ⟨b, 39, none⟩ (.slice (some ⟨g', 0, none⟩) (p.st.out.length + 1) cap)) b bm g cv iv (.slice (some ⟨g', 0, none⟩) (p.st.out.length + 1) cap) X { p with st := { p.st with out := p.st.out ++ [x] } } ∧ Kept (MutP A.heap.size) W (W'.setCell ⟨b, 39, none⟩ (.slice (some ⟨g', 0, none⟩) (p.st.out.length + 1) cap)) := by
  have hrow : ∀ k, ov.ownBlock = some k → (A.heap.size ≤ k ∧ k < W.heap.size) ∧ ∃ c f, W.heap[k]? = some (.cells c 3 f) := by
    intro k hk
    refine ⟨⟨(h.out.lt k hk).1, (h.out.lt k hk).2⟩, ?_⟩
    rcases h.out.2 with ⟨rfl, e⟩ | ⟨g, cap, cur, rfl, _, hg, _⟩
    · cases hk
    · injection hk with hk
      subst hk
      exact ⟨_, _, hg⟩
  have hkeep : ∀ k o, W.heap[k]? = some o → ov.ownBlock ≠ some k → W'.heap[k]? = some o := fun k o hk hn =>
    (hg.block k (by have := lt_of_heap hk; simp; omega) (fun e => hn e.symm)).trans (heap_old hk)
  have hbne : ov.ownBlock ≠ some b := by
    intro e
    obtain ⟨_, c, f, e2⟩ := hrow b e
    rw [h.box] at e2
    injection e2 with e2
    injection e2 with _ e2 _
    exact absurd e2 (by decide)
  have hbmne : ov.ownBlock ≠ some bm := by
    intro e
    obtain ⟨_, c, f, e2⟩ := hrow bm e
    rw [h.mem.box] at e2
    injection e2 with e2
    injection e2 with _ e2 _
    exact absurd e2 (by decide)
  obtain ⟨n1, n2⟩ := h.bne
  have lb := lt_of_heap h.box
  have lg := lt_of_heap h.mem.row
  have hb' := hkeep b _ h.box hbne
  have hgne : g' ≠ g := by
    rcases hat with e | e
    · intro e2; rw [e2] at e; exact h.apart e
    · omega
  have hgb : g' ≠ b := by
    rcases hat with e | e
    · intro e2; rw [e2] at e; exact hbne e
    · omega
  have hK : Kept (MutP A.heap.size) W W' := (Kept.alloc _ _ u).trans (Kept.grown hg (fun k o hk ho => by
    obtain ⟨⟨a1, a2⟩, c, f, e⟩ := hrow k hk
    exact mutP_row (heap_old e) a1 o ho))
  have hK2 : Kept (MutP A.heap.size) W (W'.setCell ⟨b, 39, none⟩ (.slice (some ⟨g', 0, none⟩) (p.st.out.length + 1) cap)) := hK.trans (Kept.setCell _ _ ⟨b, 39, none⟩ _ (fun o ho => by
    rw [hb'] at ho
    injection ho with ho
    subst ho
    exact ⟨h.low, .inl rfl⟩))
  refine ⟨⟨(heap_set_same hb').trans (by rw [boxP, boxP_set _ h.ok.ok.len 5]; rfl), h.low, ⟨?_, ?_, h.mem.low, h.mem.lowg⟩, h.code, h.inp, ?_, ?_, keptP_bel h.bel hK2, ok_outP h.ok _, h.lenm, ?_⟩, hK2⟩
  · rw [heap_set_other n1]; exact hkeep bm _ h.mem.box hbmne
  · rw [heap_set_other n2]; exact hkeep g _ h.mem.row h.apart
  · have e1 : (p.st.out ++ [x]).length = p.st.out.length + 1 := by simp
    have e2 : (p.st.out ++ [x]).map (Value.int .i64) = p.st.out.map (Value.int .i64) ++ [.int .i64 x] := by simp
    show World.ownsRow _ _ _ _ _ (p.st.out ++ [x]).length ((p.st.out ++ [x]).map (Value.int .i64))
    rw [e1, e2]
    refine row_kept hown (Kept.setCell (fun k o => k = b) W' ⟨b, 39, none⟩ _ (fun o ho => rfl)) ?_
    rintro k c f hk e
    injection hk with hk
    rw [e] at hk
    exact hgb hk
  · intro e
    injection e with e
    exact hgne e
  · show (p.st.out ++ [x]).length ≤ 10000
    simp
    omega
set_option maxRecDepth 100000 in
set_option maxHeartbeats 2000000 in
theorem tell_any (h : IsQ iv A W b bm g cv X p) (x : Int) (hl : p.st.out.length < 10000) :
    Calls Try.prog 77 #[.pointer (some ⟨b, 0, none⟩), .int .i64 x] W fun e W' => e = .returned (.int .i64 0) ∧ IsQ iv A W' b bm g cv X { p with st := { p.st with out := p.st.out ++ [x] } } ∧ Kept (MutP A.heap.size) W W' := by
  obtain ⟨ov, h⟩ := h
  obtain ⟨i0, hi0, hz0, hz1, hz2⟩ := info_parts intInfo
  have c1 : W.cell? ⟨b, 39, none⟩ = some ov := by rw [cell_of h.box]; exact boxP_at h.ok.ok.len 5
  have f1 := frozen_of h.box 39
  obtain ⟨ao, cap, e⟩ : ∃ ao cap, ov = .slice ao p.st.out.length cap := by
    rcases h.out.2 with ⟨rfl, e⟩ | ⟨g, cap, cur, rfl, _⟩
    · exact ⟨none, 0, by rw [e]⟩
    · exact ⟨_, _, rfl⟩
  have hown := h.out
  have hbs := h.bel.size
  have hbne : ov.ownBlock ≠ some b := by
    intro e
    rcases h.out.2 with ⟨rfl, _⟩ | ⟨g, cap, cur, rfl, _, hg, _⟩
    · cases e
    · injection e with e
      subst e
      rw [h.box] at hg
      injection hg with hg
      injection hg with _ hg _
      exact absurd hg (by decide)
  have lb := lt_of_heap h.box
  have nn := World.new_ne W ⟨b, 39, none⟩ c1
  have hlen := hl
  subst e
  have H := hidm h
  clear h
  have hl' : (p.st.out.length : Int) < 10000 := by omega
  go_enter Try.func77, Try.ntmps77
  go_wp2_with (first
    | (at_builtin; refine wpList_append_lies _ (by rfl) _ _ _ (by rfl) A.heap.size 3 i0 _ 1 8 Try.underlying23 hi0 hz0 hz1 hz2 rfl (by omega) _ _ _ (by rfl) (hown.alloc _)
        ⟨W.heap.size, 0, none⟩ 1 1 [.int .i64 x] (by rfl) (by rfl) (World.news_of_block (cs := #[.int .i64 x]) (t := 3) (fr := (0, 0)) (heap_alloc_new W _)) (by simp [Value.oneCell'])
        (by omega) (by unfold maxLen; omega) (by omega) (by simp; omega) (W.heap.size + 1) (by simp) ?_; intro gg cap1 w1 hown1 hgrow hat hlt; have hb1 := (hgrow.block b (by simp; omega) (Ne.symm hbne)).trans (heap_old (Hid.out H).box); have f2 := frozen_of hb1 39; have c2 := (cell_of hb1 39).trans (boxP_at (Hid.out H).ok.ok.len 5); clear hb1))
  all_goals
    go_ret
    obtain ⟨r1, r2⟩ := (Hid.out H).told x _ gg cap1 _ rfl hown1 hgrow hat hlen
    exact ⟨rfl, ⟨_, r1⟩, r2⟩
theorem psystem_any (h : IsQ iv A W b bm g cv X p) (x : Ins) (v : Int) :
    Calls Try.prog 55 #[.pointer (some ⟨b, 0, none⟩), .agg #[.int .i64 x.o, .int .i64 x.a, .int .i64 x.b, .int .i64 x.c, .int .i64 x.i], .int .i64 v] W fun e W' => e = .returned (.int .i64 (sysP x v p).1) ∧ (∃ iv', IsQ iv' A W' b bm g cv X (sysP x v p).2) ∧ Kept (MutP A.heap.size) W W' := by
  obtain ⟨o, xa, xb, xc, i⟩ := x
  have hB : Bel W (W.alloc (insB o xa xb xc i)) := (Bel.refl W).alloc _
  have h1 := h.stay hB
  unfold sysP takeP tellP
  dsimp only
  by_cases e1 : i = 1
  · subst e1
    rw [if_pos rfl]
    cases hi : p.st.inp with
    | nil =>
      have hr := hidm (take_nil h1 ⟨o, xa, xb, xc, 1⟩ hi)
      have H1 := hidm h1
      clear h h1 hi hB
      go_enter Try.func55, Try.ntmps55
      go_wp2_with (go_at_call 76; refine (Hid.out hr).mono ?_; rintro e w' ⟨rfl, hB'⟩)
      go_ret
      exact ⟨rfl, ⟨iv, (Hid.out H1).stay hB'⟩, (Kept.alloc _ _ _).trans (Kept.of_bel hB')⟩
    | cons n r =>
      have hr := hidm (take_cons h1 ⟨o, xa, xb, xc, 1⟩ n r hi)
      clear h h1 hi hB
      go_enter Try.func55, Try.ntmps55
      go_wp2_with (go_at_call 76; refine (Hid.out hr).mono ?_; rintro e w' ⟨rfl, q1, q2⟩)
      go_ret
      exact ⟨rfl, q1, (Kept.alloc _ _ _).trans q2⟩
  · rw [if_neg e1]
    have e1' : (i == 1) = false := by simpa using e1
    by_cases e2 : i = 2
    · subst e2
      rw [if_pos rfl]
      by_cases hf : 10000 ≤ p.st.out.length
      · rw [if_pos hf]
        have hr := tell_full h1 v hf
        unfold insB at hr
        have HR := hidm hr
        have H1 := hidm h1
        clear h h1 hB hr hf
        go_enter Try.func55, Try.ntmps55
        go_wp2_with (go_at_call 77; refine (Hid.out HR).mono ?_; rintro e w' ⟨rfl, rfl⟩)
        go_ret
        exact ⟨rfl, ⟨iv, Hid.out H1⟩, Kept.alloc _ _ _⟩
      · rw [if_neg hf]
        have HR := hidm (tell_any h1 v (by omega))
        clear h h1 hB hf
        go_enter Try.func55, Try.ntmps55
        go_wp2_with (go_at_call 77; refine (Hid.out HR).mono ?_; rintro e w' ⟨rfl, q1, q2⟩)
        go_ret
        exact ⟨rfl, ⟨iv, q1⟩, (Kept.alloc _ _ _).trans q2⟩
    · rw [if_neg e2]
      have e2' : (i == 2) = false := by simpa using e2
      have H1 := hidm h1
      clear h h1 hB e1 e2
      go_enter Try.func55, Try.ntmps55
      go_wp2
      go_ret
      exact ⟨rfl, ⟨iv, Hid.out H1⟩, Kept.alloc _ _ _⟩
end
end Go.Proofs.Ythkhlkcdhalkfaa
