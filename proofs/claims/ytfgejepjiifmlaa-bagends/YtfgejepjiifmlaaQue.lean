/-
  Queues of ints in memory; the contracts of package bag's Push, Pop, Len.
-/
import Derived.Test.YtfgejepjiifmlaaKit
import Derived.LaidEqlPtr
namespace Go.Proofs.Ytfgejepjiifmlaa
set_option linter.unusedVariables false
open Go.ChangeShapes Go.WideShapes Go.ChangeAt Go.RowKit

/-- The type of what a block holds. -/
def tag : Obj → Option TypeId
  | .cells _ e _ => some e
  | _ => none
/-- All that S does not name is as it was. -/
structure Kept (S : Nat → Obj → Prop) (w w' : World) : Prop where
  os : w'.os = w.os
  tape : w'.tape = w.tape
  output : w'.output = w.output
  size : w.heap.size ≤ w'.heap.size
  block : ∀ k o, w.heap[k]? = some o → ¬ S k o → w'.heap[k]? = some o
theorem Kept.refl (S : Nat → Obj → Prop) (w : World) : Kept S w w := ⟨rfl, rfl, rfl, Nat.le_refl _, fun _ _ h _ => h⟩
theorem Kept.trans {S : Nat → Obj → Prop} {a b c : World} (h : Kept S a b) (k : Kept S b c) : Kept S a c :=
  ⟨k.os.trans h.os, k.tape.trans h.tape, k.output.trans h.output, Nat.le_trans h.size k.size, fun i o hi hs => k.block i o (h.block i o hi hs) hs⟩
theorem Kept.mono {S T : Nat → Obj → Prop} {a b : World} (h : Kept S a b) (hs : ∀ k o, a.heap[k]? = some o → S k o → T k o) : Kept T a b :=
  ⟨h.os, h.tape, h.output, h.size, fun i o hi ht => h.block i o hi (fun e => ht (hs i o hi e))⟩
theorem Kept.alloc (S : Nat → Obj → Prop) (w : World) (o : Obj) : Kept S w (w.alloc o) :=
  ⟨rfl, rfl, rfl, by simp, fun k o' hk _ => (Below.heap_alloc w o k (Array.getElem?_eq_some_iff.1 hk).1).trans hk⟩
theorem Kept.drew (S : Nat → Obj → Prop) (w : World) : Kept S w w.drew := ⟨rfl, rfl, rfl, Nat.le_refl _, fun _ _ h _ => h⟩
theorem Kept.setCell (S : Nat → Obj → Prop) (w : World) (p : Addr) (u : Value) (hs : ∀ o, w.heap[p.block]? = some o → S p.block o) : Kept S w (w.setCell p u) :=
  ⟨rfl, rfl, rfl, by simp [World.setCell], fun k o hk hn => by
    have : k ≠ p.block := fun e => by subst e; exact hn (hs o hk)
    exact (Below.heap_setCell w p u k this).trans hk⟩
theorem Kept.grown {S : Nat → Obj → Prop} {w w' : World} {row : Option Nat} (hg : w.grownBy w' row) (hr : ∀ k o, row = some k → w.heap[k]? = some o → S k o) : Kept S w w' :=
  ⟨hg.os, hg.tape, hg.output, hg.size, fun k o hk hn => (hg.block k (Array.getElem?_eq_some_iff.1 hk).1 (fun e => hn (hr k o e.symm hk))).trans hk⟩
theorem Kept.of_bel {S : Nat → Obj → Prop} {w w' : World} (h : Bel w w') : Kept S w w' :=
  ⟨h.out.os, h.out.tape, h.out.output, h.size, fun k o hk _ => (h.out.block k (Array.getElem?_eq_some_iff.1 hk).1).trans hk⟩
theorem Kept.below {S : Nat → Obj → Prop} {w w' : World} {n : Nat} (h : Kept S w w') (hn : n ≤ w.heap.size) (hs : ∀ k o, w.heap[k]? = some o → S k o → n ≤ k) : Below n w w' :=
  ⟨h.os, h.tape, h.output, h.size, fun k hk => by
    have hlt : k < w.heap.size := by omega
    have e := Array.getElem?_eq_getElem hlt
    rw [h.block k _ e (fun s => by have := hs k _ e s; omega), e]⟩

theorem heap_set_same {w : World} {b o : Nat} {c : Array Value} {e : TypeId} {f : Nat × Nat} {u : Value} (h : w.heap[b]? = some (.cells c e f)) :
    (w.setCell ⟨b, o, none⟩ u).heap[b]? = some (.cells (c.setIfInBounds o u) e f) := by
  obtain ⟨hlt, hk⟩ := Array.getElem?_eq_some_iff.1 h
  show (w.heap.modify b _)[b]? = _
  rw [Array.getElem?_eq_getElem (by rw [Array.size_modify]; exact hlt), Array.getElem_modify_self, hk]
  rfl
theorem heap_set_other {w : World} {b o k : Nat} {u : Value} (h : k ≠ b) : (w.setCell ⟨b, o, none⟩ u).heap[k]? = w.heap[k]? := Below.heap_setCell w ⟨b, o, none⟩ u k h
theorem heap_new (w : World) (o : Obj) : (w.alloc o).heap[w.heap.size]? = some o := by show (w.heap.push o)[w.heap.size]? = _; simp
theorem heap_old {w : World} {o o' : Obj} {k : Nat} (h : w.heap[k]? = some o') : (w.alloc o).heap[k]? = some o' := (Below.heap_alloc w o k (Array.getElem?_eq_some_iff.1 h).1).trans h
theorem cell_of {w : World} {b : Nat} {c : Array Value} {e : TypeId} {f : Nat × Nat} (h : w.heap[b]? = some (.cells c e f)) (o : Nat) : w.cell? ⟨b, o, none⟩ = c[o]? := by
  simp [World.cell?, h]
theorem frozen_of {w : World} {b : Nat} {c : Array Value} {e : TypeId} (h : w.heap[b]? = some (.cells c e (0, 0))) (o : Nat) : w.frozen? ⟨b, o, none⟩ = false := by
  simp [World.frozen?, h]
theorem lt_of_heap {w : World} {k : Nat} {o : Obj} (h : w.heap[k]? = some o) : k < w.heap.size := (Array.getElem?_eq_some_iff.1 h).1

def hdq : List (Nat × Int) → Option Addr
  | [] => none
  | (k, _) :: _ => some ⟨k, 0, none⟩
def lsq : List (Nat × Int) → Option Addr
  | [] => none
  | [(k, _)] => some ⟨k, 0, none⟩
  | _ :: y :: r => lsq (y :: r)
def Links (W : World) : List (Nat × Int) → Prop
  | [] => True
  | (k, x) :: r => W.heap[k]? = some (.cells #[.int .i64 x, .pointer (hdq r)] 59 (0, 0)) ∧ Links W r
structure IsQ (n₀ : Nat) (W : World) (b : Nat) (ks : List (Nat × Int)) : Prop where
  box : W.heap[b]? = some (.cells #[.pointer (hdq ks), .pointer (lsq ks), .int .i64 ks.length] 25 (0, 0))
  links : Links W ks
  nodup : (ks.map Prod.fst).Nodup
  low : n₀ ≤ b
  lows : ∀ p ∈ ks, n₀ ≤ p.1
/-- What a queue's calls may turn: queues and links, from n₀ on. -/
def QS (n₀ k : Nat) (o : Obj) : Prop := n₀ ≤ k ∧ (tag o = some 25 ∨ tag o = some 59)

theorem lsq_snoc (l : List (Nat × Int)) (k : Nat) (x : Int) : lsq (l ++ [(k, x)]) = some ⟨k, 0, none⟩ := by
  induction l with
  | nil => rfl
  | cons y r ih =>
    cases r with
    | nil => rfl
    | cons z s => exact ih
theorem hdq_app (l m : List (Nat × Int)) (h : l ≠ []) : hdq (l ++ m) = hdq l := by
  cases l with
  | nil => exact absurd rfl h
  | cons y r => rfl
theorem Links.kept {W W' : World} {ks : List (Nat × Int)} (h : Links W ks) (hk : ∀ p ∈ ks, W'.heap[p.1]? = W.heap[p.1]?) : Links W' ks := by
  induction ks with
  | nil => trivial
  | cons y r ih =>
    obtain ⟨k, x⟩ := y
    exact ⟨(hk (k, x) (by simp)).trans h.1, ih h.2 (fun p hp => hk p (by simp [hp]))⟩
theorem Links.at {W : World} {ks : List (Nat × Int)} (h : Links W ks) : ∀ p ∈ ks, ∃ q, W.heap[p.1]? = some (.cells #[.int .i64 p.2, .pointer q] 59 (0, 0)) := by
  induction ks with
  | nil => intro p hp; cases hp
  | cons y r ih =>
    intro p hp
    rcases List.mem_cons.1 hp with rfl | hp
    · exact ⟨_, h.1⟩
    · exact ih h.2 p hp
theorem IsQ.kept {n₀ b : Nat} {S : Nat → Obj → Prop} {W W' : World} {ks : List (Nat × Int)} (h : IsQ n₀ W b ks) (hk : Kept S W W')
    (hs : ∀ k o, S k o → tag o ≠ some 25 ∧ tag o ≠ some 59) : IsQ n₀ W' b ks := by
  refine ⟨hk.block b _ h.box (fun s => (hs _ _ s).1 rfl), h.links.kept fun p hp => ?_, h.nodup, h.low, h.lows⟩
  obtain ⟨q, hq⟩ := h.links.at p hp
  rw [hk.block _ _ hq (fun s => (hs _ _ s).2 rfl), hq]
theorem IsQ.bel {n₀ b : Nat} {W W' : World} {ks : List (Nat × Int)} (h : IsQ n₀ W b ks) (hk : Bel W W') : IsQ n₀ W' b ks :=
  h.kept (S := fun _ _ => False) (Kept.of_bel hk) (fun _ _ s => s.elim)
theorem IsQ.new (n₀ : Nat) (W : World) (h : n₀ ≤ W.heap.size) : IsQ n₀ (W.alloc (.cells #[.pointer none, .pointer none, .int .i64 0] 25)) W.heap.size [] :=
  ⟨heap_new W _, trivial, by simp, h, by simp⟩

theorem lsq_mem (y : Nat × Int) (s : List (Nat × Int)) : ∃ m, lsq (y :: s) = some ⟨m, 0, none⟩ ∧ m ∈ (y :: s).map Prod.fst := by
  induction s generalizing y with
  | nil => exact ⟨y.1, rfl, by simp⟩
  | cons z r ih =>
    obtain ⟨m, h1, h2⟩ := ih z
    exact ⟨m, h1, by simp only [List.map_cons, List.mem_cons] at h2 ⊢; exact .inr h2⟩
theorem Links.last {W : World} {l : List (Nat × Int)} {k : Nat} {x : Int} (h : Links W (l ++ [(k, x)])) : W.heap[k]? = some (.cells #[.int .i64 x, .pointer none] 59 (0, 0)) := by
  induction l with
  | nil => exact h.1
  | cons y r ih => exact ih h.2
theorem Links.snoc {W W' : World} {l : List (Nat × Int)} {kl k : Nat} {xl v : Int} (h : Links W (l ++ [(kl, xl)])) (hl : ∀ p ∈ l, W'.heap[p.1]? = W.heap[p.1]?)
    (h1 : W'.heap[kl]? = some (.cells #[.int .i64 xl, .pointer (some ⟨k, 0, none⟩)] 59 (0, 0))) (h2 : W'.heap[k]? = some (.cells #[.int .i64 v, .pointer none] 59 (0, 0))) :
    Links W' (l ++ [(kl, xl)] ++ [(k, v)]) := by
  induction l with
  | nil => exact ⟨h1, h2, trivial⟩
  | cons y r ih =>
    obtain ⟨ky, xy⟩ := y
    refine ⟨?_, ih h.2 (fun p hp => hl p (by simp [hp]))⟩
    have e := (hl (ky, xy) (by simp)).trans h.1
    have e2 : hdq (r ++ [(kl, xl)] ++ [(k, v)]) = hdq (r ++ [(kl, xl)]) := hdq_app _ _ (by simp)
    exact e.trans (congrArg (fun q => some (Obj.cells #[.int .i64 xy, .pointer q] 59 (0, 0))) e2.symm)
theorem IsQ.ne {n₀ b : Nat} {W : World} {ks : List (Nat × Int)} (h : IsQ n₀ W b ks) : ∀ p ∈ ks, p.1 ≠ b := by
  intro p hp e
  obtain ⟨q, hq⟩ := h.links.at p hp
  rw [e, h.box] at hq
  injection hq with hq
  injection hq with _ hq _
  exact absurd hq (by decide)
theorem tag_q {c : Array Value} {f : Nat × Nat} : tag (.cells c 25 f) = some 25 := rfl
theorem tag_l {c : Array Value} {f : Nat × Nat} : tag (.cells c 59 f) = some 59 := rfl
theorem QS.box {n₀ b : Nat} {W : World} {c : Array Value} {f : Nat × Nat} (h : W.heap[b]? = some (.cells c 25 f)) (hn : n₀ ≤ b) : ∀ o, W.heap[b]? = some o → QS n₀ b o := by
  intro o e; rw [h] at e; injection e with e; subst e; exact ⟨hn, .inl rfl⟩
theorem QS.link {n₀ b : Nat} {W : World} {c : Array Value} {f : Nat × Nat} (h : W.heap[b]? = some (.cells c 59 f)) (hn : n₀ ≤ b) : ∀ o, W.heap[b]? = some o → QS n₀ b o := by
  intro o e; rw [h] at e; injection e with e; subst e; exact ⟨hn, .inr rfl⟩
/-- The three cells of a queue, written anew. -/
theorem box3 {W : World} {b : Nat} {c0 c1 c2 : Value} {t : TypeId} (h : W.heap[b]? = some (.cells #[c0, c1, c2] t (0, 0))) (u0 u1 u2 : Value) :
    (((W.setCell ⟨b, 0, none⟩ u0).setCell ⟨b, 1, none⟩ u1).setCell ⟨b, 2, none⟩ u2).heap[b]? = some (.cells #[u0, u1, u2] t (0, 0)) := by
  have h1 := heap_set_same (o := 0) (u := u0) h
  have h2 := heap_set_same (o := 1) (u := u1) h1
  have h3 := heap_set_same (o := 2) (u := u2) h2
  exact h3
theorem size_set (w : World) (p : Addr) (u : Value) : (w.setCell p u).heap.size = w.heap.size := by simp [World.setCell]

set_option maxHeartbeats 1000000 in
theorem push_nil (n₀ b : Nat) (v : Int) (W : World) (hn : n₀ ≤ W.heap.size) (h : IsQ n₀ W b []) :
    Calls Try.prog 11 #[.pointer (some ⟨b, 0, none⟩), .int .i64 v] W fun e W' => e = .returned (.tuple #[]) ∧ IsQ n₀ W' b [(W.heap.size, v)] ∧ Kept (QS n₀) W W' := by
  have hb := lt_of_heap h.box
  have c0 : W.cell? ⟨b, 0, none⟩ = some (.pointer none) := cell_of h.box 0
  have c1 : W.cell? ⟨b, 1, none⟩ = some (.pointer none) := cell_of h.box 1
  have c2 : W.cell? ⟨b, 2, none⟩ = some (.int .i64 0) := cell_of h.box 2
  have f0 := frozen_of h.box 0
  have f1 := frozen_of h.box 1
  have f2 := frozen_of h.box 2
  go_enter Try.func11, Try.ntmps11
  go_wp2
  go_end0
  refine ⟨rfl, ⟨heap_old (box3 h.box _ _ _), ?_, by simp, h.low, by simpa using hn⟩, ?_⟩
  · refine ⟨?_, trivial⟩
    have := heap_new (((W.setCell ⟨b, 0, none⟩ (Value.pointer (some ⟨W.heap.size, 0, none⟩))).setCell ⟨b, 1, none⟩ (Value.pointer (some ⟨W.heap.size, 0, none⟩))).setCell ⟨b, 2, none⟩ (Value.int IntKind.i64 1)) (.cells #[.int .i64 v, .pointer none] 59)
    rw [size_set, size_set, size_set] at this
    exact this
  · have k1 := Kept.setCell (QS n₀) W ⟨b, 0, none⟩ (Value.pointer (some ⟨W.heap.size, 0, none⟩)) (QS.box h.box h.low)
    have h1 := heap_set_same (o := 0) (u := Value.pointer (some ⟨W.heap.size, 0, none⟩)) h.box
    have k2 := k1.trans (Kept.setCell (QS n₀) _ ⟨b, 1, none⟩ (Value.pointer (some ⟨W.heap.size, 0, none⟩)) (QS.box h1 h.low))
    have h2 := heap_set_same (o := 1) (u := Value.pointer (some ⟨W.heap.size, 0, none⟩)) h1
    have k3 := k2.trans (Kept.setCell (QS n₀) _ ⟨b, 2, none⟩ (Value.int .i64 1) (QS.box h2 h.low))
    exact k3.trans (Kept.alloc _ _ _)

set_option maxHeartbeats 1000000 in
theorem push_snoc (n₀ b : Nat) (l : List (Nat × Int)) (kl : Nat) (xl v : Int) (W : World) (hn : n₀ ≤ W.heap.size) (hlen : l.length < 1000000000) (h : IsQ n₀ W b (l ++ [(kl, xl)])) :
    Calls Try.prog 11 #[.pointer (some ⟨b, 0, none⟩), .int .i64 v] W fun e W' => e = .returned (.tuple #[]) ∧ IsQ n₀ W' b (l ++ [(kl, xl)] ++ [(W.heap.size, v)]) ∧ Kept (QS n₀) W W' := by
  have hb := lt_of_heap h.box
  have hL := h.links.last
  have hk := lt_of_heap hL
  have hne : kl ≠ b := h.ne (kl, xl) (by simp)
  have hne' : b ≠ kl := hne.symm
  have c0 : W.cell? ⟨b, 0, none⟩ = some (.pointer (hdq (l ++ [(kl, xl)]))) := cell_of h.box 0
  have c1 : W.cell? ⟨b, 1, none⟩ = some (.pointer (some ⟨kl, 0, none⟩)) := (cell_of h.box 1).trans (by rw [lsq_snoc]; rfl)
  have c2 : W.cell? ⟨b, 2, none⟩ = some (.int .i64 (l.length + 1)) := (cell_of h.box 2).trans (by simp)
  have d1 : W.cell? ⟨kl, 1, none⟩ = some (.pointer none) := cell_of hL 1
  have f1 := frozen_of h.box 1
  have f2 := frozen_of h.box 2
  have g1 := frozen_of hL 1
  go_enter Try.func11, Try.ntmps11
  go_wp2
  go_end0
  have nd := h.nodup
  rw [List.map_append, List.nodup_append] at nd
  have b1 := (heap_set_other (o := 1) (u := Value.pointer (some ⟨W.heap.size, 0, none⟩)) hne').trans h.box
  have b2 := heap_set_same (o := 1) (u := Value.pointer (some ⟨W.heap.size, 0, none⟩)) b1
  have b3 := heap_set_same (o := 2) (u := Value.int .i64 (l.length + 1 + 1)) b2
  have l1 := heap_set_same (o := 1) (u := Value.pointer (some ⟨W.heap.size, 0, none⟩)) hL
  have l3 := (heap_set_other (o := 2) (u := Value.int .i64 (l.length + 1 + 1)) hne).trans ((heap_set_other (o := 1) (u := Value.pointer (some ⟨W.heap.size, 0, none⟩)) hne).trans l1)
  refine ⟨rfl, ⟨?_, ?_, ?_, h.low, ?_⟩, ?_⟩
  · refine heap_old (b3.trans ?_)
    have e1 : lsq (l ++ [(kl, xl)] ++ [(W.heap.size, v)]) = some ⟨W.heap.size, 0, none⟩ := lsq_snoc _ _ _
    have e2 : hdq (l ++ [(kl, xl)] ++ [(W.heap.size, v)]) = hdq (l ++ [(kl, xl)]) := hdq_app _ _ (by simp)
    have e3 : ((l ++ [(kl, xl)] ++ [(W.heap.size, v)]).length : Int) = l.length + 1 + 1 := by simp; omega
    rw [e1, e2, e3]
    rfl
  · refine Links.snoc h.links (fun p hp => ?_) (heap_old l3) ?_
    · obtain ⟨q, hq⟩ := h.links.at p (by simp [hp])
      have e1 : p.1 ≠ kl := nd.2.2 p.1 (List.mem_map_of_mem hp) kl (by simp)
      have e2 : p.1 ≠ b := h.ne p (by simp [hp])
      rw [hq]
      exact heap_old ((heap_set_other e2).trans ((heap_set_other e2).trans ((heap_set_other e1).trans hq)))
    · have := heap_new (((W.setCell ⟨kl, 1, none⟩ (Value.pointer (some ⟨W.heap.size, 0, none⟩))).setCell ⟨b, 1, none⟩ (Value.pointer (some ⟨W.heap.size, 0, none⟩))).setCell ⟨b, 2, none⟩ (Value.int IntKind.i64 (l.length + 1 + 1))) (.cells #[.int .i64 v, .pointer none] 59)
      rw [size_set, size_set, size_set] at this
      exact this
  · rw [List.map_append, List.nodup_append]
    refine ⟨h.nodup, by simp, ?_⟩
    intro a ha c hc e
    simp only [List.map_cons, List.map_nil, List.mem_singleton] at hc
    subst hc
    subst e
    obtain ⟨p, hp, e⟩ := List.mem_map.1 ha
    obtain ⟨q, hq⟩ := h.links.at p hp
    have := lt_of_heap hq
    omega
  · intro p hp
    rcases List.mem_append.1 hp with hp | hp
    · exact h.lows p hp
    · simp only [List.mem_singleton] at hp
      subst hp
      exact hn
  · have k1 := Kept.setCell (QS n₀) W ⟨kl, 1, none⟩ (Value.pointer (some ⟨W.heap.size, 0, none⟩)) (QS.link hL (h.lows (kl, xl) (by simp)))
    have k2 := k1.trans (Kept.setCell (QS n₀) _ ⟨b, 1, none⟩ (Value.pointer (some ⟨W.heap.size, 0, none⟩)) (QS.box b1 h.low))
    have k3 := k2.trans (Kept.setCell (QS n₀) _ ⟨b, 2, none⟩ (Value.int .i64 (l.length + 1 + 1)) (QS.box b2 h.low))
    exact k3.trans (Kept.alloc _ _ _)

theorem push_any (n₀ b : Nat) (ks : List (Nat × Int)) (v : Int) (W : World) (hn : n₀ ≤ W.heap.size) (hlen : ks.length < 1000000000) (h : IsQ n₀ W b ks) :
    Calls Try.prog 11 #[.pointer (some ⟨b, 0, none⟩), .int .i64 v] W fun e W' => e = .returned (.tuple #[]) ∧ IsQ n₀ W' b (ks ++ [(W.heap.size, v)]) ∧ Kept (QS n₀) W W' := by
  rcases List.eq_nil_or_concat ks with rfl | ⟨l, ⟨kl, xl⟩, rfl⟩
  · exact push_nil n₀ b v W hn h
  · rw [List.concat_eq_append] at h hlen ⊢
    exact push_snoc n₀ b l kl xl v W hn (by simp at hlen; omega) h

theorem linkInfo : (Try.prog.info? 59).map (fun i => (i.zero, i.size, i.bytes)) = some (some (.agg #[.int .i64 0, .pointer none]), 2, 16) := by kernel_rfl
set_option maxHeartbeats 1000000 in
theorem len_any (n₀ b : Nat) (ks : List (Nat × Int)) (W : World) (h : IsQ n₀ W b ks) :
    Calls Try.prog 14 #[.pointer (some ⟨b, 0, none⟩)] W fun e W' => e = .returned (.int .i64 ks.length) ∧ W' = W := by
  have c2 : W.cell? ⟨b, 2, none⟩ = some (.int .i64 ks.length) := cell_of h.box 2
  go_enter Try.func14, Try.ntmps14
  go_wp2
  go_ret
  exact ⟨rfl, rfl⟩

set_option maxHeartbeats 1000000 in
theorem pop_nil (n₀ b : Nat) (W : World) (h : IsQ n₀ W b []) :
    Calls Try.prog 9 #[.pointer (some ⟨b, 0, none⟩)] W fun e W' => e = .returned (.tuple #[.int .i64 0, .bool false]) ∧ W' = W := by
  have c0 : W.cell? ⟨b, 0, none⟩ = some (.pointer none) := cell_of h.box 0
  go_enter Try.func9, Try.ntmps9
  go_wp2
  go_ret2
  exact ⟨rfl, rfl⟩

set_option maxHeartbeats 1000000 in
theorem pop_one (n₀ b k : Nat) (x : Int) (W : World) (h : IsQ n₀ W b [(k, x)]) :
    Calls Try.prog 9 #[.pointer (some ⟨b, 0, none⟩)] W fun e W' => e = .returned (.tuple #[.int .i64 x, .bool true]) ∧ IsQ n₀ W' b [] ∧ Kept (QS n₀) W W' := by
  have hne : k ≠ b := h.ne (k, x) (by simp)
  have c0 : W.cell? ⟨b, 0, none⟩ = some (.pointer (some ⟨k, 0, none⟩)) := cell_of h.box 0
  have c1 : W.cell? ⟨b, 1, none⟩ = some (.pointer (some ⟨k, 0, none⟩)) := cell_of h.box 1
  have c2 : W.cell? ⟨b, 2, none⟩ = some (.int .i64 1) := cell_of h.box 2
  have d0 : W.cell? ⟨k, 0, none⟩ = some (.int .i64 x) := cell_of h.links.1 0
  have f0 := frozen_of h.box 0
  have f1 := frozen_of h.box 1
  have f2 := frozen_of h.box 2
  obtain ⟨i0, hi, hz0, hz1, hz2⟩ := info_parts linkInfo
  have he := run_eql_ptr_same (P := Try.prog) W (tp := 23) (te := 59) ⟨k, 0, none⟩ Try.underlying23 hi
  go_enter Try.func9, Try.ntmps9
  go_wp2
  go_ret2
  refine ⟨rfl, ⟨box3 h.box _ _ _, trivial, by simp, h.low, by simp⟩, ?_⟩
  have k1 := Kept.setCell (QS n₀) W ⟨b, 0, none⟩ (Value.pointer none) (QS.box h.box h.low)
  have h1 := heap_set_same (o := 0) (u := Value.pointer none) h.box
  have k2 := k1.trans (Kept.setCell (QS n₀) _ ⟨b, 1, none⟩ (Value.pointer none) (QS.box h1 h.low))
  have h2 := heap_set_same (o := 1) (u := Value.pointer none) h1
  exact k2.trans (Kept.setCell (QS n₀) _ ⟨b, 2, none⟩ (Value.int .i64 0) (QS.box h2 h.low))

set_option maxHeartbeats 1000000 in
theorem pop_more (n₀ b k : Nat) (x : Int) (y : Nat × Int) (s : List (Nat × Int)) (W : World) (hlen : s.length < 1000000000) (h : IsQ n₀ W b ((k, x) :: y :: s)) :
    Calls Try.prog 9 #[.pointer (some ⟨b, 0, none⟩)] W fun e W' => e = .returned (.tuple #[.int .i64 x, .bool true]) ∧ IsQ n₀ W' b (y :: s) ∧ Kept (QS n₀) W W' := by
  have hne : k ≠ b := h.ne (k, x) (by simp)
  obtain ⟨m, hm, hin⟩ := lsq_mem y s
  have hkm : k ≠ m := by
    have := h.nodup
    rw [List.map_cons, List.nodup_cons] at this
    intro e
    subst e
    exact this.1 hin
  have c0 : W.cell? ⟨b, 0, none⟩ = some (.pointer (some ⟨k, 0, none⟩)) := cell_of h.box 0
  have c1 : W.cell? ⟨b, 1, none⟩ = some (.pointer (some ⟨m, 0, none⟩)) := (cell_of h.box 1).trans (by rw [← hm]; rfl)
  have c2 : W.cell? ⟨b, 2, none⟩ = some (.int .i64 (s.length + 1 + 1)) := (cell_of h.box 2).trans (by simp)
  have d0 : W.cell? ⟨k, 0, none⟩ = some (.int .i64 x) := cell_of h.links.1 0
  have d1 : W.cell? ⟨k, 1, none⟩ = some (.pointer (hdq (y :: s))) := cell_of h.links.1 1
  have f0 := frozen_of h.box 0
  have f2 := frozen_of h.box 2
  obtain ⟨pm, hpm, rfl⟩ := List.mem_map.1 hin
  obtain ⟨qm, hqm⟩ := h.links.2.at pm hpm
  obtain ⟨i0, hi, hz0, hz1, hz2⟩ := info_parts linkInfo
  have he := run_eql_ptr_other (P := Try.prog) W (tp := 23) (te := 59) (a := ⟨k, 0, none⟩) (b := ⟨pm.1, 0, none⟩) Try.underlying23 hi (by omega) (fun e => hkm (congrArg Addr.block e)) h.links.1 hqm
  go_enter Try.func9, Try.ntmps9
  go_wp2
  go_ret2
  have nd := h.nodup
  rw [List.map_cons, List.nodup_cons] at nd
  have h1 := heap_set_same (o := 0) (u := Value.pointer (hdq (y :: s))) h.box
  have h2 := heap_set_same (o := 2) (u := Value.int .i64 (s.length + 1)) h1
  refine ⟨rfl, ⟨h2, ?_, nd.2, h.low, fun p hp => h.lows p (by simp at hp ⊢; exact .inr hp)⟩, ?_⟩
  · refine h.links.2.kept fun p hp => ?_
    have e2 : p.1 ≠ b := h.ne p (by simp at hp ⊢; exact .inr hp)
    exact (heap_set_other e2).trans (heap_set_other e2)
  · have k1 := Kept.setCell (QS n₀) W ⟨b, 0, none⟩ (Value.pointer (hdq (y :: s))) (QS.box h.box h.low)
    exact k1.trans (Kept.setCell (QS n₀) _ ⟨b, 2, none⟩ (Value.int .i64 (s.length + 1)) (QS.box h1 h.low))

/-- Pop of what is there. -/
theorem pop_cons (n₀ b k : Nat) (x : Int) (s : List (Nat × Int)) (W : World) (hlen : s.length < 1000000000) (h : IsQ n₀ W b ((k, x) :: s)) :
    Calls Try.prog 9 #[.pointer (some ⟨b, 0, none⟩)] W fun e W' => e = .returned (.tuple #[.int .i64 x, .bool true]) ∧ IsQ n₀ W' b s ∧ Kept (QS n₀) W W' := by
  cases s with
  | nil => exact pop_one n₀ b k x W h
  | cons y s => exact pop_more n₀ b k x y s W (by simp at hlen; omega) h
end Go.Proofs.Ytfgejepjiifmlaa
