/-
  Sets of ints in memory; the contracts of package bag's Has, Add, Len (as SetI, without queues).
-/
import Derived.Test.YtdhnlloohjehgaaKx
import Derived.Defers
import Derived.Recover
import Derived.Maps.OwnSet
import Derived.Maps.AppendAt
namespace Go.Proofs.Ytdhnlloohjehgaa
set_option maxRecDepth 20000
set_option linter.unusedVariables false
open Go.ChangeShapes Go.WideShapes Go.ChangeAt Go.RowKit Go.Maps

/-- Is it in the list? -/
def inB (L : List Int) (x : Int) : Bool := L.contains x
theorem inB_iff (L : List Int) (x : Int) : inB L x = true ↔ x ∈ L := by simp [inB]
def setD (L : List Int) : DataW Unit := setOf (.agg []) (L.map (Lit.int .i64))
theorem setD_snoc (L : List Int) (x : Int) : (setD L).put (.int .i64 x) (.agg []) = setD (L ++ [x]) := by
  rw [setD, setD, List.map_append]; exact (setOf_snoc _ _ _).symm
theorem has_setD (L : List Int) (x : Int) : Maps.has (setD L) (.int .i64 x) = inB L x := by
  rw [setD, has_setOf _ _ _ (by intro y hy; obtain ⟨z, _, rfl⟩ := List.mem_map.1 hy; trivial)]
  rw [Bool.eq_iff_iff, inB_iff, List.any_eq_true]
  constructor
  · rintro ⟨y, hy, hs⟩
    obtain ⟨z, hz, rfl⟩ := List.mem_map.1 hy
    have := WideAt.sameKey_eq hs
    injection this with _ e
    exact e ▸ hz
  · intro h
    exact ⟨.int .i64 x, List.mem_map_of_mem h, WideAt.sameKey_self trivial⟩

def MapOf (n₀ : Nat) (W : World) (L : List Int) : Option Nat → Prop
  | none => L = []
  | some m => n₀ ≤ m ∧ W.ownsMap Try.prog 3 (unitElem (H := Unit)) m L.length (setD L)
structure IsS (n₀ : Nat) (W : World) (b : Nat) (v : Value) (mp : Option Nat) (L : List Int) : Prop where
  box : W.heap[b]? = some (.cells #[v, .map mp] 55 (0, 0))
  row : W.ownsRow n₀ 3 1 v L.length (L.map (Value.int .i64))
  map : MapOf n₀ W L mp
  low : n₀ ≤ b
/-- What a set's calls may turn. -/
def SS (b : Nat) (v : Value) (mp : Option Nat) (k : Nat) (o : Obj) : Prop := k = b ∨ v.ownBlock = some k ∨ mp = some k

theorem has1_idle (p : Addr) (w : World) :
    CallsD Try.prog 44 #[.pointer (some p)] .returning w fun e u' w' => e = .returned (.tuple #[]) ∧ u' = .returning ∧ w' = w := by
  refine callsD_of_wpS Try.func44 rfl fun c₀ cs hu => ?_
  apply wpS_seq
  apply wpS_region
  simp [wpOpsS, go_sem, recoverD, hu, Try.ntmps44, Exit.thenS]
  refine wpS_cond (t := false) (by simp [Act.eval, Array.replicate]) ?_
  simp only [Bool.false_eq_true, if_false]
  refine wpS_of_wp (wp_skip ?_)
  cases c₀
  simp_all [bodyPostS, results, Try.results44]
theorem mark1_idle (w : World) :
    CallsD Try.prog 45 #[] .returning w fun e u' w' => e = .returned (.tuple #[]) ∧ u' = .returning ∧ w' = w := by
  refine callsD_of_wpS Try.func45 rfl fun c₀ cs hu => ?_
  apply wpS_region
  simp [wpOpsS, go_sem, recoverD, hu]
  cases c₀
  simp_all [bodyPostS, results, Try.results45]

theorem law : Keyed Try.prog 3 := int_keyed Try.underlying3
theorem zeroE (w : World) : (zeroValue 68).run Try.prog w = .ok (.agg #[]) w := by kernel_rfl

set_option maxHeartbeats 1000000 in
theorem has_any (n₀ b : Nat) (v : Value) (mp : Option Nat) (L : List Int) (x : Int) (wx : (Lit.int .i64 x).wf = true) (W : World) (h : IsS n₀ W b v mp L) :
    Calls Try.prog 38 #[.pointer (some ⟨b, 0, none⟩), .int .i64 x] W fun e W' => e = .returned (.bool (inB L x)) ∧ Bel W W' := by
  have hmf : ∀ (fn : Fn) (first cap : Array Value) (w : World), (Instr.makeFunc fn first cap).run Try.prog w = .ok (.func fn first cap) w := fun _ _ _ _ => rfl
  have hb := lt_of_heap h.box
  have c1 : W.cell? ⟨b, 1, none⟩ = some (.map mp) := cell_of h.box 1
  have hkey : keyOf Try.prog 3 (.int .i64 x) = some (.int .i64 x) := keyOf_int_mk Try.underlying3 wx
  have hm := h.map
  cases mp with
  | none =>
    have hL : inB L x = false := by rw [show L = [] from hm]; rfl
    have hlk := fun w : World => look_nil (w := w) true law Try.underlying53 (zeroE w) hkey
    simp only [if_true] at hlk
    go_enter_defers Try.func38, Try.ntmps38
    go_wp2
    refine leaves_cons (f := 44) (args := #[.pointer (some ⟨W.heap.size, 0, none⟩)]) (by simp) (by simp [go_sem]) ?_
    refine (has1_idle ⟨W.heap.size, 0, none⟩ _).mono ?_
    rintro e u' w'' ⟨rfl, rfl, rfl⟩
    simp [Leaves, settle, results, Try.results38, go_sem, hL]
    exact (Bel.refl W).alloc _
  | some m =>
    obtain ⟨_, hown⟩ := hm
    have hD := has_setD L x
    go_enter_defers Try.func38, Try.ntmps38
    go_wp2_with (at_lookup; refine wpList_lookup_own_unit _ rfl _ _ 53 rfl 3 68 law Try.underlying53 (zeroE _) m L.length (setD L) rfl (hown.alloc _) _ _ rfl hkey ?_)
    refine leaves_cons (f := 44) (args := #[.pointer (some ⟨W.heap.size, 0, none⟩)]) (by simp) (by simp [go_sem]) ?_
    refine (has1_idle ⟨W.heap.size, 0, none⟩ _).mono ?_
    rintro e u' w'' ⟨rfl, rfl, rfl⟩
    simp [Leaves, settle, results, Try.results38, go_sem]
    exact (Bel.refl W).alloc _

theorem eql_map_nil (w : World) (t k e : TypeId) (mp : Option Nat) (ht : Try.prog.underlying t = some (.map k e)) : (binOp .eql t (.map mp) (.map none)).run Try.prog w = .ok (.bool mp.isNone) w := by
  have h : ∀ d : Nat, (Op.equalIn (d + 1) t (.map mp) (.map none)).run Try.prog w = .ok mp.isNone w := fun d => by
    cases mp <;> simp [Op.equalIn, run_underlying ht]
  simp only [binOp]
  simp [Op.equal, Op.maxDepth, h 9999]
theorem setD_nil : setD [] = .map [] := rfl
set_option maxHeartbeats 1000000 in
theorem mark_none (n₀ b : Nat) (v : Value) (x : Int) (wx : (Lit.int .i64 x).wf = true) (W : World) (hn : n₀ ≤ W.heap.size) (hbox : W.heap[b]? = some (.cells #[v, .map none] 55 (0, 0))) :
    Calls Try.prog 39 #[.pointer (some ⟨b, 0, none⟩), .int .i64 x] W fun e W' => e = .returned (.tuple #[]) ∧
      W'.heap[b]? = some (.cells #[v, .map (some W.heap.size)] 55 (0, 0)) ∧ MapOf n₀ W' [x] (some W.heap.size) ∧ Kept (fun k _ => k = b) W W' := by
  have hb := lt_of_heap hbox
  have c1 : W.cell? ⟨b, 1, none⟩ = some (.map none) := cell_of hbox 1
  have f1 := frozen_of hbox 1
  have hmm := @run_makeMap Try.prog
  have heq := fun w : World => eql_map_nil w 53 _ _ none Try.underlying53
  simp only [Option.isNone_none] at heq
  have hkey : keyOf Try.prog 3 (.int .i64 x) = some (.int .i64 x) := keyOf_int_mk Try.underlying3 wx
  have hown0 : ((W.setCell ⟨b, 1, none⟩ (.map (some W.heap.size))).alloc (.map #[] 0)).ownsMap Try.prog 3 (unitElem (H := Unit)) W.heap.size 0 (setD []) := by
    have := World.ownsMap_made (H := Unit) (W.setCell ⟨b, 1, none⟩ (.map (some W.heap.size))) Try.prog 3 unitElem
    rw [size_set] at this
    exact this
  go_enter_defers Try.func39, Try.ntmps39
  go_wp2_with (at_mapUpdate; refine wpList_mapUpdate_own _ rfl _ _ _ 53 rfl 3 68 law Try.underlying53 _ W.heap.size 0 _ rfl hown0 (by unfold maxLen; omega) _ _ _ rfl rfl hkey _ [] unitElem_mk ?_; intro w1 hown1 hgrow1)
  have h1 : w1.heap[b]? = some (.cells #[v, .map (some W.heap.size)] 55 (0, 0)) := by
    have e1 := heap_set_same (o := 1) (u := .map (some W.heap.size)) hbox
    exact (hgrow1.block b (by simp; omega) (by simp; omega)).trans (heap_old e1)
  have hk : Kept (fun k _ => k = b) W w1 := by
    refine ⟨hgrow1.os, hgrow1.tape, hgrow1.output, by have := hgrow1.size; simp at this; omega, fun k o hk hne => ?_⟩
    have hlt := lt_of_heap hk
    exact (hgrow1.block k (by simp; omega) (by simp; omega)).trans (heap_old ((heap_set_other hne).trans hk))
  have hM : MapOf n₀ w1 [x] (some W.heap.size) := ⟨hn, by rw [setD_snoc] at hown1; exact hown1⟩
  refine leaves_cons (f := 45) (args := #[]) (by simp) (by simp [go_sem]) ?_
  refine (mark1_idle _).mono ?_
  rintro e u' w'' ⟨rfl, rfl, rfl⟩
  simp [Leaves, settle, results, Try.results39, go_sem]
  exact ⟨h1, hM, hk⟩

set_option maxHeartbeats 1000000 in
theorem mark_some (n₀ b m : Nat) (v : Value) (L : List Int) (x : Int) (wx : (Lit.int .i64 x).wf = true) (hlen : L.length < 1000000000) (W : World) (hbox : W.heap[b]? = some (.cells #[v, .map (some m)] 55 (0, 0))) (hm : MapOf n₀ W L (some m)) :
    Calls Try.prog 39 #[.pointer (some ⟨b, 0, none⟩), .int .i64 x] W fun e W' => e = .returned (.tuple #[]) ∧
      W'.heap[b]? = some (.cells #[v, .map (some m)] 55 (0, 0)) ∧ MapOf n₀ W' (L ++ [x]) (some m) ∧ Kept (fun k _ => k = m) W W' := by
  have hb := lt_of_heap hbox
  have c1 : W.cell? ⟨b, 1, none⟩ = some (.map (some m)) := cell_of hbox 1
  have heq := fun w : World => eql_map_nil w 53 _ _ (some m) Try.underlying53
  simp only [Option.isNone_some] at heq
  have hkey : keyOf Try.prog 3 (.int .i64 x) = some (.int .i64 x) := keyOf_int_mk Try.underlying3 wx
  obtain ⟨hn, hown⟩ := hm
  go_enter_defers Try.func39, Try.ntmps39
  go_wp2_with (at_mapUpdate; refine wpList_mapUpdate_own _ rfl _ _ _ 53 rfl 3 68 law Try.underlying53 _ m L.length _ rfl hown (by unfold maxLen; omega) _ _ _ rfl rfl hkey _ [] unitElem_mk ?_; intro w1 hown1 hgrow1)
  have hne : b ≠ m := fun e => by
    subst e
    obtain ⟨es, clock, hmb, _⟩ := hown
    rw [hbox] at hmb
    cases hmb
  have h1 : w1.heap[b]? = some (.cells #[v, .map (some m)] 55 (0, 0)) := (hgrow1.block b hb (by simp; exact hne)).trans hbox
  have hk : Kept (fun k _ => k = m) W w1 := Kept.grown hgrow1 (fun k o e _ => by cases e; rfl)
  have hM : MapOf n₀ w1 (L ++ [x]) (some m) := ⟨hn, by rw [setD_snoc] at hown1; simpa using hown1⟩
  refine leaves_cons (f := 45) (args := #[]) (by simp) (by simp [go_sem]) ?_
  refine (mark1_idle _).mono ?_
  rintro e u' w'' ⟨rfl, rfl, rfl⟩
  simp [Leaves, settle, results, Try.results39, go_sem]
  exact ⟨h1, hM, hk⟩

theorem mark_any (n₀ b : Nat) (v : Value) (mp : Option Nat) (L : List Int) (x : Int) (wx : (Lit.int .i64 x).wf = true) (hlen : L.length < 1000000000) (W : World) (hn : n₀ ≤ W.heap.size) (hbox : W.heap[b]? = some (.cells #[v, .map mp] 55 (0, 0))) (hm : MapOf n₀ W L mp) :
    Calls Try.prog 39 #[.pointer (some ⟨b, 0, none⟩), .int .i64 x] W fun e W' => e = .returned (.tuple #[]) ∧
      ∃ m', W'.heap[b]? = some (.cells #[v, .map (some m')] 55 (0, 0)) ∧ MapOf n₀ W' (L ++ [x]) (some m') ∧ (mp = some m' ∨ W.heap.size ≤ m') ∧ Kept (fun k _ => k = b ∨ mp = some k) W W' := by
  cases mp with
  | none =>
    obtain rfl : L = [] := hm
    refine (mark_none n₀ b v x wx W hn hbox).mono ?_
    rintro e W' ⟨rfl, h1, h2, h3⟩
    exact ⟨rfl, _, h1, h2, .inr (Nat.le_refl _), h3.mono (fun k o _ e => .inl e)⟩
  | some m =>
    refine (mark_some n₀ b m v L x wx hlen W hbox hm).mono ?_
    rintro e W' ⟨rfl, h1, h2, h3⟩
    exact ⟨rfl, _, h1, h2, .inl rfl, h3.mono (fun k o _ e => .inr (by rw [e]))⟩

theorem MapOf.kept {S : Nat → Obj → Prop} {n₀ : Nat} {W W' : World} {L : List Int} {mp : Option Nat} (h : MapOf n₀ W L mp) (hk : Kept S W W') (hs : ∀ m es c, mp = some m → ¬ S m (.map es c)) : MapOf n₀ W' L mp := by
  cases mp with
  | none => exact h
  | some m =>
    obtain ⟨h1, es, clock, hb, r⟩ := h
    exact ⟨h1, es, clock, hk.block m _ hb (hs m es clock rfl), r⟩
theorem IsS.kept {S : Nat → Obj → Prop} {n₀ b : Nat} {v : Value} {mp : Option Nat} {W W' : World} {L : List Int} (h : IsS n₀ W b v mp L) (hk : Kept S W W') (hs : ∀ k o, S k o → k ≠ b ∧ v.ownBlock ≠ some k ∧ mp ≠ some k) : IsS n₀ W' b v mp L :=
  ⟨hk.block b _ h.box (fun s => (hs _ _ s).1 rfl), row_kept h.row hk (fun g _ _ e s => (hs _ _ s).2.1 e), h.map.kept hk (fun m _ _ e s => (hs _ _ s).2.2 e), h.low⟩
theorem IsS.bel {n₀ b : Nat} {v : Value} {mp : Option Nat} {W W' : World} {L : List Int} (h : IsS n₀ W b v mp L) (hk : Bel W W') : IsS n₀ W' b v mp L :=
  h.kept (S := fun _ _ => False) (Kept.of_bel hk) (fun _ _ s => s.elim)
theorem IsS.new (n₀ : Nat) (W : World) (h : n₀ ≤ W.heap.size) : IsS n₀ (W.alloc (.cells #[.slice none 0 0, .map none] 55)) W.heap.size (.slice none 0 0) none [] :=
  ⟨heap_new W _, World.ownsRow_nil _ _ _ _, rfl, h⟩

theorem add_old (n₀ b : Nat) (v : Value) (mp : Option Nat) (L : List Int) (x : Int) (wx : (Lit.int .i64 x).wf = true) (W : World) (h : IsS n₀ W b v mp L) (hin : inB L x = true) :
    Calls Try.prog 33 #[.pointer (some ⟨b, 0, none⟩), .int .i64 x] W fun e W' => e = .returned (.bool false) ∧ Bel W W' := by
  go_enter Try.func33, Try.ntmps33
  go_wp2_with (go_at_call 38; refine (has_any n₀ b v mp L _ wx _ h).mono ?_; rintro e w1 ⟨rfl, hb1⟩)
  go_ret
  exact ⟨rfl, hb1⟩

theorem slice_of {n₀ : Nat} {W : World} {e : TypeId} {v : Value} {n : Nat} {xs : List Value} (h : W.ownsRow n₀ e 1 v n xs) : ∃ ao cap, v = .slice ao n cap := by
  rcases h.2 with ⟨rfl, e⟩ | ⟨g, cap, cur, rfl, _⟩
  · exact ⟨none, 0, by rw [e]⟩
  · exact ⟨_, cap, rfl⟩

theorem row_succ {W : World} {base : Nat} {e : TypeId} {size : Nat} {v : Value} {k : Nat} {xs : List Value} (h : W.ownsRow base e size v (k + 1) xs) : ∃ g cap, v = .slice (some ⟨g, 0, none⟩) (k + 1) cap := by
  rcases h.2 with ⟨_, h0⟩ | ⟨g, cap, _, rfl, _⟩
  · omega
  · exact ⟨g, cap, rfl⟩
theorem IsS.ne_row {n₀ b : Nat} {v : Value} {mp : Option Nat} {W : World} {L : List Int} (h : IsS n₀ W b v mp L) : v.ownBlock ≠ some b := by
  intro e
  rcases h.row.2 with ⟨rfl, _⟩ | ⟨g, cap, cur, rfl, _, hg, _⟩
  · cases e
  · obtain rfl : g = b := by simpa [Value.ownBlock] using e
    rw [h.box] at hg
    injection hg with hg
    injection hg with _ hg _
    exact absurd hg (by decide)
theorem IsS.ne_map {n₀ b : Nat} {v : Value} {mp : Option Nat} {W : World} {L : List Int} (h : IsS n₀ W b v mp L) : mp ≠ some b := by
  intro e
  subst e
  obtain ⟨_, es, clock, hmb, _⟩ := h.map
  rw [h.box] at hmb
  cases hmb
theorem IsS.row_map {n₀ b : Nat} {v : Value} {mp : Option Nat} {W : World} {L : List Int} (h : IsS n₀ W b v mp L) : ∀ k, v.ownBlock = some k → mp ≠ some k := by
  intro k e e'
  subst e'
  obtain ⟨_, es, clock, hmb, _⟩ := h.map
  rcases h.row.2 with ⟨rfl, _⟩ | ⟨g, cap, cur, rfl, _, hg, _⟩
  · cases e
  · obtain rfl : g = k := by simpa [Value.ownBlock] using e
    rw [hmb] at hg
    cases hg

theorem add_kept {n₀ b : Nat} {v u : Value} {mp : Option Nat} {L : List Int} {W w1 w2 : World} {o : Obj} (hb1 : Bel W w1) (h1 : IsS n₀ w1 b v mp L) (hg : (w1.alloc o).grownBy w2 v.ownBlock) :
    Kept (fun k _ => k = b ∨ v.ownBlock = some k) w1 (w2.setCell ⟨b, 0, none⟩ u) :=
  ((Kept.alloc _ w1 o).trans (Kept.grown hg (fun k o e _ => .inr e))).trans (Kept.setCell _ w2 ⟨b, 0, none⟩ u (fun o _ => .inl rfl))
set_option maxHeartbeats 1000000 in
theorem add_new (n₀ b : Nat) (v : Value) (mp : Option Nat) (L : List Int) (x : Int) (wx : (Lit.int .i64 x).wf = true) (hlen : L.length < 1000000) (W : World) (hn : n₀ ≤ W.heap.size) (h : IsS n₀ W b v mp L) (hin : inB L x = false) :
    Calls Try.prog 33 #[.pointer (some ⟨b, 0, none⟩), .int .i64 x] W fun e W' => e = .returned (.bool true) ∧
      ∃ v' m', IsS n₀ W' b v' (some m') (L ++ [x]) ∧ Kept (SS b v mp) W W' ∧ (v'.ownBlock = v.ownBlock ∨ ∃ g, v'.ownBlock = some g ∧ W.heap.size ≤ g) ∧ (mp = some m' ∨ W.heap.size ≤ m') := by
  obtain ⟨i0, hi, hz0, hz1, hz2⟩ := info_parts intInfo
  go_enter Try.func33, Try.ntmps33
  go_wp2_with (first
    | (go_at_call 38; refine (has_any n₀ b v mp L _ wx _ h).mono ?_; rintro e w1 ⟨rfl, hb1⟩; have h1 := h.bel hb1; have hbb := lt_of_heap h1.box; have c0 : w1.cell? ⟨b, 0, none⟩ = some v := cell_of h1.box 0; have f0 := frozen_of h1.box 0)
    | (at_builtin; refine wpList_append_own_at _ rfl _ _ 30 rfl n₀ 3 i0 (.int .i64 0) 1 8 Try.underlying30 hi hz0 hz1 hz2 rfl (by decide) _ _ _ rfl (h1.row.alloc _) ⟨w1.heap.size, 0, none⟩ 1 1 [.int .i64 x] rfl rfl (cell_one_new _ _ _) (by intro u hu; simp at hu; subst hu; rfl) (by unfold maxLen; omega) (by omega) (by have := hb1.size; simp; omega) ?_; intro v2 w2 hown2 hgrow2 _ hloc2; obtain ⟨g2, cap2, hv2⟩ := row_succ hown2; subst hv2; have hx2 : w2.heap[b]? = some (.cells #[v, .map mp] 55 (0, 0)) := (hgrow2.block b (by simp; omega) (fun e => h1.ne_row e.symm)).trans (heap_old h1.box); have hbb2 := lt_of_heap hx2; have c2 : w2.cell? ⟨b, 0, none⟩ = some v := cell_of hx2 0; have f2 := frozen_of hx2 0)
    | (go_at_call 39; refine (mark_any n₀ b (.slice (some ⟨g2, 0, none⟩) (L.length + 1) cap2) mp L x wx (by omega) _ (by have := hgrow2.size; have := hb1.size; simp at *; omega) (heap_set_same (o := 0) hx2) (h1.map.kept (add_kept hb1 h1 hgrow2) (fun m es c e s => s.elim (fun e' => h1.ne_map (e' ▸ e)) (fun e' => h1.row_map m e' e)))).mono ?_; rintro e w3 ⟨rfl, m', hb3, hm3, ho3, hk3⟩))
  go_ret
  have hs1 := hb1.size
  have hs2 := hgrow2.size
  simp only [World.size_alloc] at hs2 hloc2
  have hg2b : g2 ≠ b := by
    intro e
    subst e
    rcases hloc2 with e | e
    · exact h1.ne_row (e.symm.trans rfl)
    · have : some g2 = some (w1.heap.size + 1) := e
      injection this with this
      omega
  have hrow : (w2.setCell ⟨b, 0, none⟩ (.slice (some ⟨g2, 0, none⟩) (L.length + 1) cap2)).ownsRow n₀ 3 1 (.slice (some ⟨g2, 0, none⟩) (L.length + 1) cap2) (L.length + 1) (L.map (Value.int .i64) ++ [.int .i64 x]) :=
    row_kept hown2 (Kept.setCell (fun k _ => k = b) w2 ⟨b, 0, none⟩ _ (fun _ _ => rfl)) (fun g c f e e' => by
      have : g2 = g := by simpa [Value.ownBlock] using e
      exact hg2b (this.trans e'))
  have hm2 : MapOf n₀ (w2.setCell ⟨b, 0, none⟩ (.slice (some ⟨g2, 0, none⟩) (L.length + 1) cap2)) L mp := h1.map.kept (add_kept hb1 h1 hgrow2) (fun m es c e s => s.elim (fun e' => h1.ne_map (e' ▸ e)) (fun e' => h1.row_map m e' e))
  have hrow3 := row_kept hrow hk3 (fun g c f e e' => by
    have eg : g2 = g := by simpa [Value.ownBlock] using e
    subst eg
    rcases e' with e' | e'
    · exact hg2b e'
    · subst e'
      obtain ⟨_, es, clock, hmb, _⟩ := hm2
      rcases hrow.2 with ⟨e1, _⟩ | ⟨g, cap, cur, e1, _, hg, _⟩
      · cases e1
      · obtain rfl : g2 = g := by injection e1 with e1; injection e1 with e1; injection e1 with e1
        rw [hmb] at hg
        cases hg)
  refine ⟨rfl, _, m', ⟨hb3, ?_, hm3, h.low⟩, ?_, ?_, ?_⟩
  · rw [List.map_append, List.length_append]
    exact hrow3
  · refine (Kept.of_bel hb1).trans (((add_kept hb1 h1 hgrow2).mono ?_).trans (hk3.mono ?_))
    · rintro k o _ (e | e)
      · exact .inl e
      · exact .inr (.inl e)
    · rintro k o _ (e | e)
      · exact .inl e
      · exact .inr (.inr e)
  · rcases hloc2 with e | e
    · exact .inl e
    · exact .inr ⟨_, e, by omega⟩
  · rcases ho3 with e | e
    · exact .inl e
    · refine .inr ?_
      simp only [size_set] at e
      omega
end Go.Proofs.Ytdhnlloohjehgaa
