/-
  The machine's calls that act: load, store, read, write, system.
-/
import Derived.Test.YtmgpfhmodjmcdaaMc2
import Derived.Deep.RegionHeld3
import Derived.Deep.AppendLies
import Derived.Deep.RegionLaw
namespace Go.Proofs.Ytmgpfhmodjmcdaa
set_option maxRecDepth 20000
set_option linter.unusedVariables false
open Go.ChangeShapes Go.WideShapes Go.ChangeAt Go.RowKit

theorem IsMc.isM {A W : World} {b bm g : Nat} {cv : Value} {X : List Ins} {s : St} (h : IsMc A W b bm g cv X s) : IsM A.heap.size W bm g s.mem := by
  obtain ⟨iv, ov, h⟩ := h
  exact h.mem
theorem mload_any {A W : World} {b bm g : Nat} {cv : Value} {X : List Ins} {s : St} (h : IsMc A W b bm g cv X s) (r z : Int) (hr : 0 ≤ r ∧ r ≤ 31) :
    Calls Try.prog 51 #[.pointer (some ⟨b, 0, none⟩), .int .i64 r, .int .i64 z] W fun e W' => e = .returned (.int .i64 (loadM r z s).1) ∧ IsMc A W' b bm g cv X (loadM r z s).2 ∧ Kept (Mut A.heap.size) W W' := by
  have c1 := h.codeAt.2
  have hl := load_gen h.isM z
  have hs := set_any h r (getM s.mem z) hr (get_wd h.ok.cells z)
  unfold loadM
  by_cases hz : inM s.mem z = true
  · rw [if_pos hz]
    rw [hz] at hl
    have HS := hidm hs
    have HL := hidm hl
    clear hs hl hz
    go_enter Try.func51, Try.ntmps51
    go_wp2_with (first
      | (go_at_call 58; refine (Hid.out HL).mono ?_; rintro e w' ⟨rfl, rfl⟩)
      | (go_at_call 50; refine (Hid.out HS).mono ?_; rintro e w' ⟨rfl, q1, q2⟩))
    go_ret
    exact ⟨rfl, q1, q2⟩
  · rw [if_neg hz]
    rw [show inM s.mem z = false by simpa using hz] at hl
    have HL := hidm hl
    clear hs hl hz
    go_enter Try.func51, Try.ntmps51
    go_wp2_with (first
      | (go_at_call 58; refine (Hid.out HL).mono ?_; rintro e w' ⟨rfl, rfl⟩))
    go_ret
    exact ⟨rfl, h, Kept.refl _ _⟩
theorem IsMc.stored {A W W' : World} {b bm g : Nat} {cv : Value} {X : List Ins} {s : St} (h : IsMc A W b bm g cv X s) (z v : Int) (hm : IsM A.heap.size W' bm g (putM s.mem z v)) (hk : Kept (fun j _ => j = g) W W') :
    IsMc A W' b bm g cv X { s with mem := putM s.mem z v } ∧ Kept (Mut A.heap.size) W W' := by
  obtain ⟨iv, ov, h⟩ := h
  obtain ⟨n1, n2⟩ := h.bne
  have hk2 : Kept (Mut A.heap.size) W W' := hk.mono (fun k o ho e => by subst e; exact mut_row h.mem.row h.mem.lowg o ho)
  refine ⟨⟨iv, ov, hk.block b _ h.box n2.symm, h.low, hm, h.code, h.inp, row_kept h.out hk (fun k c f e1 e2 => h.apart (by rw [e1, e2])), h.apart, kept_bel h.bel hk2, ⟨h.ok.len, h.ok.words, put_wd h.ok.cells _ _, h.ok.zero⟩, ?_, h.leno⟩, hk2⟩
  show (putM s.mem z v).length ≤ 32000
  rw [put_len]; exact h.lenm
theorem mstore_any {A W : World} {b bm g : Nat} {cv : Value} {X : List Ins} {s : St} (h : IsMc A W b bm g cv X s) (z v : Int) :
    Calls Try.prog 52 #[.pointer (some ⟨b, 0, none⟩), .int .i64 z, .int .i64 v] W fun e W' => e = .returned (.int .i64 (storeM z v s).1) ∧ IsMc A W' b bm g cv X (storeM z v s).2 ∧ Kept (Mut A.heap.size) W W' := by
  have c1 := h.codeAt.2
  have hl := store_gen h.isM z v
  unfold storeM
  by_cases hz : inM s.mem z = true
  · rw [if_pos hz]
    rw [hz] at hl
    have HL := hidm hl
    clear hl hz
    go_enter Try.func52, Try.ntmps52
    go_wp2_with (first
      | (go_at_call 59; refine (Hid.out HL).mono ?_; rintro e w' ⟨rfl, q1, q2⟩))
    go_ret
    obtain ⟨r1, r2⟩ := h.stored z v q1 q2
    exact ⟨rfl, r1, r2⟩
  · rw [if_neg hz]
    have hz' : inM s.mem z = false := by simpa using hz
    have hp : putM s.mem z v = s.mem := by unfold putM; rw [if_neg hz]
    rw [hz'] at hl
    have HL := hidm hl
    clear hl hz hz'
    have HP := hidm hp
    clear hp
    go_enter Try.func52, Try.ntmps52
    go_wp2_with (first
      | (go_at_call 59; refine (Hid.out HL).mono ?_; rintro e w' ⟨rfl, q1, q2⟩))
    go_ret
    obtain ⟨r1, r2⟩ := h.stored z v q1 q2
    rw [Hid.out HP] at r1
    exact ⟨rfl, r1, r2⟩
theorem read_nil {A W : World} {b bm g : Nat} {cv : Value} {X : List Ins} {s : St} (h : IsMc A W b bm g cv X s) (hi : s.inp = []) :
    Calls Try.prog 60 #[.pointer (some ⟨b, 0, none⟩)] W fun e W' => e = .returned (.int .i64 6) ∧ W' = W := by
  obtain ⟨iv, ov, h⟩ := h
  obtain ⟨ao, cap, rfl, hc, hr⟩ := h.inp
  have c1 : W.cell? ⟨b, 35, none⟩ = some (.slice ao s.inp.length cap) := by rw [cell_of h.box]; exact (box_at h.ok.len).2.1
  rw [hi] at c1
  go_enter Try.func60, Try.ntmps60
  go_wp2
  go_ret
  exact ⟨rfl, rfl⟩
theorem add_to (b o k : Nat) : (⟨b, o, none⟩ : Addr).add k = ⟨b, o + k, none⟩ := by unfold Addr.add; split <;> simp_all
theorem IntsC.tail {A : World} {b o : Nat} {n : Int} {r : List Int} (h : ∀ j, j < (n :: r).length → A.cell? ⟨b, o + j, none⟩ = some (.int .i64 ((n :: r)[j]?.getD 0))) (hb : b < A.heap.size) (c : Nat) (hc : r.length ≤ c) (ao : Option Addr) (ha : 0 < r.length → ao = some ⟨b, o + 1, none⟩) : IntsC A (.slice ao r.length c) r := by
  refine ⟨ao, c, rfl, hc, fun hn => ⟨b, o + 1, ha hn, hb, fun j hj => ?_⟩⟩
  have := h (j + 1) (by simp; omega)
  rw [show o + 1 + j = o + (j + 1) by omega, this]
  simp
set_option maxHeartbeats 1000000 in
theorem read_cons {A W : World} {b bm g : Nat} {cv : Value} {X : List Ins} {s : St} (h : IsMc A W b bm g cv X s) (n : Int) (r : List Int) (hi : s.inp = n :: r) :
    Calls Try.prog 60 #[.pointer (some ⟨b, 0, none⟩)] W fun e W' => e = .returned (.int .i64 0) ∧ IsMc A W' b bm g cv X { s with regs := setR s.regs 4 (wrap32 n), inp := r } ∧ Kept (Mut A.heap.size) W W' := by
  obtain ⟨iv, ov, h⟩ := h
  have hs := hidm (set_c h 4 (wrap32 n) (by omega) (wd_wrap n))
  obtain ⟨ao, cap, rfl, hc, hr⟩ := h.inp
  have c1 : W.cell? ⟨b, 35, none⟩ = some (.slice ao s.inp.length cap) := by rw [cell_of h.box]; exact (box_at h.ok.len).2.1
  obtain ⟨b0, o0, rfl, hb0, hcell⟩ := hr (by rw [hi]; simp)
  have d1 := hcell 0 (by rw [hi]; simp)
  rw [hi] at c1 d1 hc hcell
  rw [← (bcell h.bel).1 _ _ hb0] at d1
  simp only [List.length_cons, List.getElem?_cons_zero, Option.getD_some, Nat.add_zero] at c1 d1 hc
  have HC := hidm hcell
  clear hcell hr
  have hok := h.ok
  go_enter Try.func60, Try.ntmps60
  go_wp2_with (first
    | (go_at_call 31; refine (wrap_any _ _).mono ?_; rintro e w' ⟨rfl, rfl⟩)
    | (go_at_call 50; refine (Hid.out hs).mono ?_; rintro e w2 ⟨rfl, q1, q2⟩; have c2 : w2.cell? ⟨b, 35, none⟩ = some (.slice (some ⟨b0, o0, none⟩) (r.length + 1) cap) := (cell_of q1.box 35).trans ((box_at q1.ok.len).2.1.trans (by rw [hi]; rfl)); have f2 := frozen_of q1.box 35))
  all_goals
    go_ret
    refine ⟨rfl, ⟨_, ov, q1.store 35 _ (box_set q1.ok.len 1 _) rfl rfl ?_ ⟨q1.ok.len, q1.ok.words, q1.ok.cells, q1.ok.zero⟩⟩, q2.trans (q1.keptStore 35 _)⟩
    exact IntsC.tail (Hid.out HC) hb0 _ (by omega) _ (fun hn => by first | rfl | (exfalso; omega))
theorem write_full {A W : World} {b bm g : Nat} {cv : Value} {X : List Ins} {s : St} (h : IsMc A W b bm g cv X s) (hf : 10000 ≤ s.out.length) :
    Calls Try.prog 61 #[.pointer (some ⟨b, 0, none⟩)] W fun e W' => e = .returned (.int .i64 9) ∧ W' = W := by
  obtain ⟨iv, ov, h⟩ := h
  obtain ⟨ao, cap, e, hc, hr⟩ : ∃ ao cap, ov = .slice ao s.out.length cap ∧ True ∧ True := by
    rcases h.out.2 with ⟨rfl, e⟩ | ⟨g, cap, cur, rfl, _⟩
    · exact ⟨none, 0, by rw [e], trivial, trivial⟩
    · exact ⟨_, _, rfl, trivial, trivial⟩
  have c1 : W.cell? ⟨b, 36, none⟩ = some ov := by rw [cell_of h.box]; exact (box_at h.ok.len).2.2
  rw [e] at c1
  have hf' : (10000 : Int) ≤ s.out.length := by omega
  go_enter Try.func61, Try.ntmps61
  go_wp2
  go_ret
  exact ⟨rfl, rfl⟩
theorem IsC.wrote {A W W' : World} {b bm g : Nat} {cv iv ov : Value} {X : List Ins} {s : St} (h : IsC A W b bm g cv iv ov X s) (x : Int) (u : Obj) (g' cap H : Nat) (hH : H = W.heap.size + 1)
    (hown : W'.ownsRow A.heap.size 3 1 (.slice (some ⟨g', 0, none⟩) (s.out.length + 1) cap) (s.out.length + 1) (s.out.map (Value.int .i64) ++ [.int .i64 x])) (hg : (W.alloc u).drew.grownBy W' ov.ownBlock) (hat : ov.ownBlock = some g' ∨ g' = H) (hl : s.out.length < 10000) :
    IsC A (W'.setCell ⟨b, 36, none⟩ (.slice (some ⟨g', 0, none⟩) (s.out.length + 1) cap)) b bm g cv iv (.slice (some ⟨g', 0, none⟩) (s.out.length + 1) cap) X { s with out := s.out ++ [x] } ∧ Kept (Mut A.heap.size) W (W'.setCell ⟨b, 36, none⟩ (.slice (some ⟨g', 0, none⟩) (s.out.length + 1) cap)) := by
  have hrow : ∀ k, ov.ownBlock = some k → (A.heap.size ≤ k ∧ k < W.heap.size) ∧ ∃ c f, W.heap[k]? = some (.cells c 3 f) := by
    intro k hk
    refine ⟨⟨(h.out.lt k hk).1, (h.out.lt k hk).2⟩, ?_⟩
    rcases h.out.2 with ⟨rfl, e⟩ | ⟨g, cap, cur, rfl, _, hg, _⟩
    · cases hk
    · injection hk with hk
      subst hk
      exact ⟨_, _, hg⟩
  have hkeep : ∀ k o, W.heap[k]? = some o → ov.ownBlock ≠ some k → W'.heap[k]? = some o := fun k o hk hn =>
    (hg.block k (by have := lt_of_heap hk; simp; omega) (fun e => hn e.symm)).trans (heap_old hk)
  have hbne : ov.ownBlock ≠ some b := by
    intro e
    obtain ⟨_, c, f, e2⟩ := hrow b e
    rw [h.box] at e2
    injection e2 with e2
    injection e2 with _ e2 _
    exact absurd e2 (by decide)
  have hbmne : ov.ownBlock ≠ some bm := by
    intro e
    obtain ⟨_, c, f, e2⟩ := hrow bm e
    rw [h.mem.box] at e2
    injection e2 with e2
    injection e2 with _ e2 _
    exact absurd e2 (by decide)
  obtain ⟨n1, n2⟩ := h.bne
  have lb := lt_of_heap h.box
  have lg := lt_of_heap h.mem.row
  have hb' := hkeep b _ h.box hbne
  have hgne : g' ≠ g := by
    rcases hat with e | e
    · intro e2; rw [e2] at e; exact h.apart e
    · omega
  have hgb : g' ≠ b := by
    rcases hat with e | e
    · intro e2; rw [e2] at e; exact hbne e
    · omega
  have hK : Kept (Mut A.heap.size) W W' := ((Kept.alloc _ _ u).trans (Kept.drew _ _)).trans (Kept.grown hg (fun k o hk ho => by
    obtain ⟨⟨a1, a2⟩, c, f, e⟩ := hrow k hk
    exact mut_row (heap_old e) a1 o ho))
  have hK2 : Kept (Mut A.heap.size) W (W'.setCell ⟨b, 36, none⟩ (.slice (some ⟨g', 0, none⟩) (s.out.length + 1) cap)) := hK.trans (Kept.setCell _ _ ⟨b, 36, none⟩ _ (fun o ho => by
    rw [hb'] at ho
    injection ho with ho
    subst ho
    exact ⟨h.low, .inl rfl⟩))
  refine ⟨⟨(heap_set_same hb').trans (by rw [box_set h.ok.len 2]; rfl), h.low, ⟨?_, ?_, h.mem.low, h.mem.lowg⟩, h.code, h.inp, ?_, ?_, kept_bel h.bel hK2, ⟨h.ok.len, h.ok.words, h.ok.cells, h.ok.zero⟩, h.lenm, ?_⟩, hK2⟩
  · rw [heap_set_other n1]; exact hkeep bm _ h.mem.box hbmne
  · rw [heap_set_other n2]; exact hkeep g _ h.mem.row h.apart
  · have e1 : (s.out ++ [x]).length = s.out.length + 1 := by simp
    have e2 : (s.out ++ [x]).map (Value.int .i64) = s.out.map (Value.int .i64) ++ [.int .i64 x] := by simp
    show World.ownsRow _ _ _ _ _ (s.out ++ [x]).length ((s.out ++ [x]).map (Value.int .i64))
    rw [e1, e2]
    refine row_kept hown (Kept.setCell (fun k o => k = b) W' ⟨b, 36, none⟩ _ (fun o ho => rfl)) ?_
    rintro k c f hk e
    injection hk with hk
    rw [e] at hk
    exact hgb hk
  · intro e
    injection e with e
    exact hgne e
  · show (s.out ++ [x]).length ≤ 10000
    simp
    omega
set_option maxRecDepth 100000 in
set_option maxHeartbeats 2000000 in
theorem write_any {A W : World} {b bm g : Nat} {cv : Value} {X : List Ins} {s : St} (h : IsMc A W b bm g cv X s) (hl : s.out.length < 10000) :
    Calls Try.prog 61 #[.pointer (some ⟨b, 0, none⟩)] W fun e W' => e = .returned (.int .i64 0) ∧ IsMc A W' b bm g cv X { s with out := s.out ++ [reg s.regs 4] } ∧ Kept (Mut A.heap.size) W W' := by
  have d4 := h.regAt 4 (by omega)
  obtain ⟨iv, ov, h⟩ := h
  obtain ⟨i0, hi0, hz0, hz1, hz2⟩ := info_parts intInfo
  have c1 : W.cell? ⟨b, 36, none⟩ = some ov := by rw [cell_of h.box]; exact (box_at h.ok.len).2.2
  have f1 := frozen_of h.box 36
  obtain ⟨ao, cap, e⟩ : ∃ ao cap, ov = .slice ao s.out.length cap := by
    rcases h.out.2 with ⟨rfl, e⟩ | ⟨g, cap, cur, rfl, _⟩
    · exact ⟨none, 0, by rw [e]⟩
    · exact ⟨_, _, rfl⟩
  have hown := h.out
  have hbs := h.bel.size
  have hbne : ov.ownBlock ≠ some b := by
    intro e
    rcases h.out.2 with ⟨rfl, _⟩ | ⟨g, cap, cur, rfl, _, hg, _⟩
    · cases e
    · injection e with e
      subst e
      rw [h.box] at hg
      injection hg with hg
      injection hg with _ hg _
      exact absurd hg (by decide)
  have lb := lt_of_heap h.box
  have nn := World.new_ne W ⟨b, 36, none⟩ c1
  have nn2 := World.new_ne W ⟨b, 2 + 4, none⟩ d4
  have hlen := hl
  subst e
  have H := hidm h
  clear h
  have hl' : (s.out.length : Int) < 10000 := by omega
  have hreg : reg s.regs 4 = s.regs[4]?.getD 0 := rfl
  rw [hreg]
  clear hreg
  generalize s.regs[4]?.getD 0 = x at d4 ⊢
  have d4' : W.cell? ⟨b, 6, none⟩ = some (.int .i64 x) := d4
  clear d4
  go_enter Try.func61, Try.ntmps61
  go_wp2_with fail
  go_region_law
    ((refine step_append_lies _ (by rfl) _ _ _ (by rfl) A.heap.size 3 i0 _ 1 8 Try.underlying23 hi0 hz0 hz1 hz2 rfl (by omega) _ _ _ (by rfl) ((hown.alloc _).drew)
        ⟨W.heap.size, 0, none⟩ 1 1 [.int .i64 x] (by rfl) (by rfl) (World.news_of_block (cs := #[.int .i64 x]) (t := 3) (fr := (0, 0)) (heap_alloc_new W _)) (by simp [Value.oneCell'])
        (by omega) (by unfold maxLen; omega) (by omega) (by simp; omega) (W.heap.size + 1) (by simp) ?_; intro gg cap1 w1 hown1 hgrow hat hlt; have hb1 := (hgrow.block b (by simp; omega) (Ne.symm hbne)).trans (heap_old (Hid.out H).box); have f2 := frozen_of hb1 36; have c2 := (cell_of hb1 36).trans (box_at (Hid.out H).ok.len).2.2; clear hb1))
  all_goals
    go_wp2
    go_ret
    obtain ⟨r1, r2⟩ := (Hid.out H).wrote x _ gg cap1 _ rfl hown1 hgrow hat hlen
    exact ⟨rfl, ⟨_, _, r1⟩, r2⟩
theorem system_any {A W : World} {b bm g : Nat} {cv : Value} {X : List Ins} {s : St} (h : IsMc A W b bm g cv X s) (z : Int) :
    Calls Try.prog 55 #[.pointer (some ⟨b, 0, none⟩), .int .i64 z] W fun e W' => e = .returned (.int .i64 (sysM z s).1) ∧ IsMc A W' b bm g cv X (sysM z s).2 ∧ Kept (Mut A.heap.size) W W' := by
  unfold sysM
  by_cases h1 : z = 1
  · subst h1
    rw [if_pos rfl]
    cases hi : s.inp with
    | nil =>
      have hr := hidm (read_nil h hi)
      go_enter Try.func55, Try.ntmps55
      go_wp2_with (go_at_call 60; refine (Hid.out hr).mono ?_; rintro e w' ⟨rfl, rfl⟩)
      go_ret
      exact ⟨rfl, h, Kept.refl _ _⟩
    | cons n r =>
      have hr := hidm (read_cons h n r hi)
      go_enter Try.func55, Try.ntmps55
      go_wp2_with (go_at_call 60; refine (Hid.out hr).mono ?_; rintro e w' ⟨rfl, q1, q2⟩)
      go_ret
      exact ⟨rfl, q1, q2⟩
  · rw [if_neg h1]
    have h1' : (z == 1) = false := by simpa using h1
    by_cases h2 : z = 2
    · subst h2
      rw [if_pos rfl]
      by_cases hf : 10000 ≤ s.out.length
      · rw [if_pos hf]
        have hr := hidm (write_full h hf)
        go_enter Try.func55, Try.ntmps55
        go_wp2_with (go_at_call 61; refine (Hid.out hr).mono ?_; rintro e w' ⟨rfl, rfl⟩)
        go_ret
        exact ⟨rfl, h, Kept.refl _ _⟩
      · rw [if_neg hf]
        have hr := hidm (write_any h (by omega))
        go_enter Try.func55, Try.ntmps55
        go_wp2_with (go_at_call 61; refine (Hid.out hr).mono ?_; rintro e w' ⟨rfl, q1, q2⟩)
        go_ret
        exact ⟨rfl, q1, q2⟩
    · rw [if_neg h2]
      have h2' : (z == 2) = false := by simpa using h2
      go_enter Try.func55, Try.ntmps55
      go_wp2
      go_ret
      exact ⟨rfl, h, Kept.refl _ _⟩
end Go.Proofs.Ytmgpfhmodjmcdaa
