/-
  What BagEnds wants: beginnings of lists, boxes beside a queue and a set.
-/
import Derived.Test.YtfgejepjiifmlaaTwo
namespace Go.Proofs.Ytfgejepjiifmlaa
set_option linter.unusedVariables false
open Go.ChangeShapes Go.WideShapes Go.ChangeAt Go.RowKit Go.Shelf

theorem ownFrom_kept {β : Type} {S : Nat → Obj → Prop} {w1 : World} : OwnFrom w1.heap.size (fun (_ : β) W => Kept S w1 W) :=
  fun _ A B row hs hg hr => ⟨hg.os.trans hs.os, hg.tape.trans hs.tape, hg.output.trans hs.output, Nat.le_trans hs.size hg.size, fun k o hk hn =>
    (hg.block k (lt_of_heap (hs.block k o hk hn)) (fun e => by have := (hr k e.symm).1; have := lt_of_heap hk; omega)).trans (hs.block k o hk hn)⟩
theorem prefix_snoc {α : Type} {pre T : List α} {x : α} (h : pre <+: T) (hx : T[pre.length]? = some x) : pre ++ [x] <+: T := by
  obtain ⟨r, rfl⟩ := h
  rw [List.getElem?_append_right (Nat.le_refl _), Nat.sub_self] at hx
  cases r with
  | nil => cases hx
  | cons y r =>
    injection hx with hx
    subst hx
    exact ⟨r, by simp⟩
theorem snoc_prefix {α : Type} {pre T : List α} {x : α} (h : pre ++ [x] <+: T) : T[pre.length]? = some x := by
  obtain ⟨r, rfl⟩ := h
  simp
theorem told_at (ks : List (Nat × Int)) : ∀ (i j : Nat), j < ks.length → (toldFrom i ks)[j]? = some (i + j, (ks.map Prod.snd)[j]?.getD 0) := by
  induction ks with
  | nil => intro i j h; simp at h
  | cons y r ih =>
    intro i j h
    cases j with
    | zero => simp [toldFrom]
    | succ j =>
      have := ih (i + 1) j (by simp at h; omega)
      simp [toldFrom, this]
      omega
/-- The numbers below k. -/
def rng (k : Nat) : List Int := (List.range k).map (fun i : Nat => (i : Int))
theorem rng_length (k : Nat) : (rng k).length = k := by simp [rng]
theorem rng_succ (k : Nat) : rng (k + 1) = rng k ++ [(k : Int)] := by simp [rng, List.range_succ]
theorem rng_at (k j : Nat) (h : j < k) : (rng k)[j]? = some (j : Int) := by simp [rng, h]
theorem rng_not (k : Nat) : inB (rng k) k = false := by
  rw [Bool.eq_false_iff]
  intro h
  have := (inB_iff _ _).1 h
  simp [rng] at this
  omega
/-- The row lies from h on. -/
def High (h : Nat) (v : Value) : Prop := ∀ g, v.ownBlock = some g → h ≤ g
theorem high_nil (h : Nat) : High h (.slice none 0 0) := fun g e => by cases e
theorem high_add {h : Nat} {W : World} {v v' : Value} (hv : High h v) (hw : h ≤ W.heap.size) (ho : v'.ownBlock = v.ownBlock ∨ ∃ g, v'.ownBlock = some g ∧ W.heap.size ≤ g) : High h v' := fun g e => by
  rcases ho with o | ⟨g', o, hg⟩
  · exact hv g (o ▸ e)
  · rw [o] at e; injection e with e; omega
theorem box_set {n₀ b k : Nat} {t : TypeId} {x v : Value} {mp : Option Nat} {W W' : World} {L : List Int} (hb : Boxed W k t x) (s : IsS n₀ W b v mp L) (hk : Kept (SS b v mp) W W') (hne : k ≠ b) (hr : v.ownBlock ≠ some k) : Boxed W' k t x :=
  hk.block k _ hb fun hs => by
    rcases hs with e | e | e
    · exact hne e
    · exact hr e
    · subst e
      obtain ⟨_, es, clock, hmb, _⟩ := s.map
      rw [show W.heap[k]? = _ from hb] at hmb
      cases hmb
theorem box_queue {n₀ k : Nat} {t : TypeId} {x : Value} {W W' : World} (hb : Boxed W k t x) (hk : Kept (QS n₀) W W') (h1 : t ≠ 25) (h2 : t ≠ 59) : Boxed W' k t x :=
  hk.block k _ hb fun hs => by
    rcases hs.2 with e | e
    · injection e with e; exact h1 e
    · injection e with e; exact h2 e
theorem box_bel {k : Nat} {t : TypeId} {x : Value} {W W' : World} (hb : Boxed W k t x) (h : Bel W W') : Boxed W' k t x := (h.out.block k hb.lt).trans hb
theorem box_kept {k p : Nat} {t : TypeId} {x : Value} {W W' : World} (hb : Boxed W k t x) (h : Kept (fun j _ => j = p) W W') (hne : k ≠ p) : Boxed W' k t x := h.block k _ hb hne
theorem box_new2 (W : World) (o : Obj) (t : TypeId) (v : Value) : Boxed ((W.alloc o).alloc (.cells #[v] t)) (W.heap.size + 1) t v := by
  have := Boxed.new (W.alloc o) t v
  rwa [World.size_alloc] at this
theorem cell_kept1 {p b o : Nat} {x : Value} {W W' : World} (hc : W.cell? ⟨b, o, none⟩ = some x) (hb : b < W.heap.size) (h : Kept (fun j _ => j = p) W W') (hne : b ≠ p) : W'.cell? ⟨b, o, none⟩ = some x := by
  rw [← hc]
  refine World.cell?_of_block ?_
  have e := Array.getElem?_eq_getElem hb
  rw [h.block b _ e hne, e]
theorem kept_bel {p : Nat} {W W' w : World} (h : Kept (fun j _ => j = p) W W') (hB : Bel w W) (hp : w.heap.size ≤ p) : Bel w W' := hB.out.trans (h.below hB.size (fun k o _ e => by omega))
theorem IsQ.kept1 {n₀ b p : Nat} {W W' : World} {ks : List (Nat × Int)} {x : Value} {t : TypeId} (q : IsQ n₀ W b ks) (hb : Boxed W p t x) (h1 : t ≠ 25) (h2 : t ≠ 59) (h : Kept (fun j _ => j = p) W W') : IsQ n₀ W' b ks :=
  q.kept (S := fun _ o => tag o = some t) (h.mono (fun k o e hs => by
    subst hs
    rw [show W.heap[k]? = _ from hb] at e
    injection e with e
    subst e
    rfl)) (fun k o s => by
    rw [s]
    exact ⟨(by intro e; injection e with e; exact h1 e), (by intro e; injection e with e; exact h2 e)⟩)
theorem IsS.kept1 {n₀ b p : Nat} {v : Value} {mp : Option Nat} {W W' : World} {L : List Int} {x : Value} {t : TypeId} (s : IsS n₀ W b v mp L) (hb : Boxed W p t x) (hne : p ≠ b) (hr : v.ownBlock ≠ some p) (h : Kept (fun j _ => j = p) W W') : IsS n₀ W' b v mp L :=
  s.kept (S := fun k _ => k ≠ b ∧ v.ownBlock ≠ some k ∧ mp ≠ some k) (h.mono (fun k o e hs => by
    subst hs
    refine ⟨hne, hr, fun e' => ?_⟩
    subst e'
    obtain ⟨_, es, clock, hmb, _⟩ := s.map
    rw [show W.heap[k]? = _ from hb] at hmb
    cases hmb)) (fun _ _ h => h)
end Go.Proofs.Ytfgejepjiifmlaa
