/-
  The program's line, in memory; mayStand.
  The queue of the program's line: Pop, Push.
-/
import Derived.Test.YtpmofaajkhllpaaHpp
import Derived.Test.YtpmofaajkhllpaaLn11
import Derived.Test.YtpmofaajkhllpaaIb
import Derived.LaidEqlPtr
namespace Go.Proofs.Ytpmofaajkhllpaa
set_option maxRecDepth 20000
section
set_option linter.unusedVariables false
open Go.ChangeShapes Go.WideShapes Go.ChangeAt Go.RowKit

def hdq : List (Nat × Int) → Option Addr
  | [] => none
  | (k, _) :: _ => some ⟨k, 0, none⟩
def lsq : List (Nat × Int) → Option Addr
  | [] => none
  | [(k, _)] => some ⟨k, 0, none⟩
  | _ :: y :: r => lsq (y :: r)
def Links (W : World) : List (Nat × Int) → Prop
  | [] => True
  | (k, x) :: r => W.heap[k]? = some (.cells #[.int .i64 x, .pointer (hdq r)] 96 (0, 0)) ∧ Links W r
theorem lsq_snoc (l : List (Nat × Int)) (k : Nat) (x : Int) : lsq (l ++ [(k, x)]) = some ⟨k, 0, none⟩ := by
  induction l with
  | nil => rfl
  | cons y r ih =>
    cases r with
    | nil => rfl
    | cons z s => exact ih
theorem hdq_app (l m : List (Nat × Int)) (h : l ≠ []) : hdq (l ++ m) = hdq l := by
  cases l with
  | nil => exact absurd rfl h
  | cons y r => rfl
theorem Links.kept {W W' : World} {ks : List (Nat × Int)} (h : Links W ks) (hk : ∀ p ∈ ks, W'.heap[p.1]? = W.heap[p.1]?) : Links W' ks := by
  induction ks with
  | nil => trivial
  | cons y r ih =>
    obtain ⟨k, x⟩ := y
    exact ⟨(hk (k, x) (by simp)).trans h.1, ih h.2 (fun p hp => hk p (by simp [hp]))⟩
theorem Links.at {W : World} {ks : List (Nat × Int)} (h : Links W ks) : ∀ p ∈ ks, ∃ q, W.heap[p.1]? = some (.cells #[.int .i64 p.2, .pointer q] 96 (0, 0)) := by
  induction ks with
  | nil => intro p hp; cases hp
  | cons y r ih =>
    intro p hp
    rcases List.mem_cons.1 hp with rfl | hp
    · exact ⟨_, h.1⟩
    · exact ih h.2 p hp
theorem lsq_mem (y : Nat × Int) (s : List (Nat × Int)) : ∃ m, lsq (y :: s) = some ⟨m, 0, none⟩ ∧ m ∈ (y :: s).map Prod.fst := by
  induction s generalizing y with
  | nil => exact ⟨y.1, rfl, by simp⟩
  | cons z r ih =>
    obtain ⟨m, h1, h2⟩ := ih z
    exact ⟨m, h1, by simp only [List.map_cons, List.mem_cons] at h2 ⊢; exact .inr h2⟩
theorem Links.last {W : World} {l : List (Nat × Int)} {k : Nat} {x : Int} (h : Links W (l ++ [(k, x)])) : W.heap[k]? = some (.cells #[.int .i64 x, .pointer none] 96 (0, 0)) := by
  induction l with
  | nil => exact h.1
  | cons y r ih => exact ih h.2
theorem Links.snoc {W W' : World} {l : List (Nat × Int)} {kl k : Nat} {xl v : Int} (h : Links W (l ++ [(kl, xl)])) (hl : ∀ p ∈ l, W'.heap[p.1]? = W.heap[p.1]?)
    (h1 : W'.heap[kl]? = some (.cells #[.int .i64 xl, .pointer (some ⟨k, 0, none⟩)] 96 (0, 0))) (h2 : W'.heap[k]? = some (.cells #[.int .i64 v, .pointer none] 96 (0, 0))) :
    Links W' (l ++ [(kl, xl)] ++ [(k, v)]) := by
  induction l with
  | nil => exact ⟨h1, h2, trivial⟩
  | cons y r ih =>
    obtain ⟨ky, xy⟩ := y
    refine ⟨?_, ih h.2 (fun p hp => hl p (by simp [hp]))⟩
    have e := (hl (ky, xy) (by simp)).trans h.1
    have e2 : hdq (r ++ [(kl, xl)] ++ [(k, v)]) = hdq (r ++ [(kl, xl)]) := hdq_app _ _ (by simp)
    exact e.trans (congrArg (fun q => some (Obj.cells #[.int .i64 xy, .pointer q] 96 (0, 0))) e2.symm)

/-- The rows of followers, one of each place. -/
structure BehM (n₀ : Nat) (W : World) (n bg : Nat) (bv : Nat → Value) (F : Nat → List Pr) : Prop where
  beh : W.heap[bg]? = some (.cells ((Array.range n).map bv) 55)
  rows : ∀ j, j < n → W.ownsRow n₀ 57 2 (bv j) (F j).length (flat2 (F j))
  dis : ∀ i j, i < n → j < n → i ≠ j → ∀ k, (bv i).ownBlock = some k → (bv j).ownBlock ≠ some k
  low : n₀ ≤ bg
/-- The queue's links. -/
structure LnkM (n₀ : Nat) (W : World) (ks : List (Nat × Int)) : Prop where
  links : Links W ks
  nodup : (ks.map Prod.fst).Nodup
  lows : ∀ p ∈ ks, n₀ ≤ p.1
/-- The line. -/
structure LineM (n₀ hi : Nat) (W : World) (b : Nat) (X : List Ins) (hg hc ag bg : Nat) (bv : Nat → Value) (F : Nat → List Pr) (rv : Value) (aw : Nat → Int) (R : List Pr) (ks : List (Nat × Int)) : Prop where
  rdy : RdyM n₀ W b (.slice (some ⟨hg, 0, none⟩) X.length hc) (.slice (some ⟨ag, 0, none⟩) X.length X.length) (.slice (some ⟨bg, 0, none⟩) X.length X.length) rv (.pointer (hdq ks)) (.pointer (lsq ks)) (.int .i64 ks.length) R
  heap : HeapOk R R.length
  hts : W.heap[hg]? = some (intB (hAt X) X.length)
  awt : W.heap[ag]? = some (intB aw X.length)
  beh : BehM n₀ W X.length bg bv F
  lnk : LnkM n₀ W ks
  hgl : n₀ ≤ hg ∧ hg < hi
  agl : n₀ ≤ ag ∧ ag < hi
  hne : hg ≠ ag
/-- What its calls may turn. -/
def LS (n₀ b ag k : Nat) (o : Obj) : Prop := k = b ∨ k = ag ∨ (n₀ ≤ k ∧ (tag o = some 61 ∨ tag o = some 96))
theorem RS.ls {n₀ b ag k : Nat} {o : Obj} (h : RS n₀ b k o) : LS n₀ b ag k o := by
  rcases h with h | ⟨h1, h2⟩
  · exact .inl h
  · exact .inr (.inr ⟨h1, .inl h2⟩)
theorem BehM.kept {S : Nat → Obj → Prop} {n₀ : Nat} {W W' : World} {n bg : Nat} {bv : Nat → Value} {F : Nat → List Pr} (h : BehM n₀ W n bg bv F) (hk : Kept S W W')
    (h1 : ∀ c, ¬ S bg (.cells c 55)) (h2 : ∀ g c, W.heap[g]? = some (.cells c 57) → ¬ S g (.cells c 57)) : BehM n₀ W' n bg bv F :=
  ⟨hk.block bg _ h.beh (h1 _), fun j hj => by
    obtain ⟨q0, q⟩ := h.rows j hj
    refine ⟨q0, ?_⟩
    rcases q with q | ⟨g, cap, cur, q1, q2, q3, q4⟩
    · exact .inl q
    · exact .inr ⟨g, cap, cur, q1, q2, hk.block g _ q3 (h2 _ _ q3), q4⟩, h.dis, h.low⟩
theorem LnkM.kept {S : Nat → Obj → Prop} {n₀ : Nat} {W W' : World} {ks : List (Nat × Int)} (h : LnkM n₀ W ks) (hk : Kept S W W') (h1 : ∀ g c, W.heap[g]? = some (.cells c 96) → ¬ S g (.cells c 96)) : LnkM n₀ W' ks :=
  ⟨h.links.kept fun p hp => by
    obtain ⟨q, hq⟩ := h.links.at p hp
    rw [hq]
    exact hk.block _ _ hq (h1 _ _ hq), h.nodup, h.lows⟩
theorem LineM.ne {n₀ hi : Nat} {W : World} {b : Nat} {X : List Ins} {hg hc ag bg : Nat} {bv : Nat → Value} {F : Nat → List Pr} {rv : Value} {aw : Nat → Int} {R : List Pr} {ks : List (Nat × Int)} (h : LineM n₀ hi W b X hg hc ag bg bv F rv aw R ks) : hg ≠ b ∧ ag ≠ b ∧ bg ≠ b := by
  have hb := h.rdy.box
  refine ⟨fun e => ?_, fun e => ?_, fun e => ?_⟩
  · have := h.hts; rw [e, hb] at this; injection this with this; injection this with _ this _; exact absurd this (by decide)
  · have := h.awt; rw [e, hb] at this; injection this with this; injection this with _ this _; exact absurd this (by decide)
  · have := h.beh.beh; rw [e, hb] at this; injection this with this; injection this with _ this _; exact absurd this (by decide)
theorem LineM.blt {n₀ hi : Nat} {W : World} {b : Nat} {X : List Ins} {hg hc ag bg : Nat} {bv : Nat → Value} {F : Nat → List Pr} {rv : Value} {aw : Nat → Int} {R : List Pr} {ks : List (Nat × Int)} (h : LineM n₀ hi W b X hg hc ag bg bv F rv aw R ks) : b < W.heap.size := lt_of_heap h.rdy.box
/-- What has not turned the line's blocks. -/
theorem LineM.kept {S : Nat → Obj → Prop} {n₀ hi : Nat} {W W' : World} {b : Nat} {X : List Ins} {hg hc ag bg : Nat} {bv : Nat → Value} {F : Nat → List Pr} {rv : Value} {aw : Nat → Int} {R : List Pr} {ks : List (Nat × Int)} (h : LineM n₀ hi W b X hg hc ag bg bv F rv aw R ks) (hk : Kept S W W')
    (h1 : ∀ k o, S k o → hi ≤ k ∧ tag o = some 3) : LineM n₀ hi W' b X hg hc ag bg bv F rv aw R ks := by
  have q1 := h.hgl
  have q2 := h.agl
  refine ⟨⟨hk.block b _ h.rdy.box (fun s => absurd (h1 _ _ s).2 (by unfold tag; simp)), own2_kept h.rdy.row hk (fun g c f _ s => by have := (h1 _ _ s).2; exact absurd this (by unfold tag; simp)), h.rdy.low⟩, h.heap,
    hk.block hg _ h.hts (fun s => by have := (h1 _ _ s).1; omega), hk.block ag _ h.awt (fun s => by have := (h1 _ _ s).1; omega),
    h.beh.kept hk (fun c s => absurd (h1 _ _ s).2 (by unfold tag; simp)) (fun g c _ s => absurd (h1 _ _ s).2 (by unfold tag; simp)), h.lnk.kept hk (fun g c _ s => absurd (h1 _ _ s).2 (by unfold tag; simp)), h.hgl, h.agl, h.hne⟩
theorem LineM.bel {n₀ hi : Nat} {W W' : World} {b : Nat} {X : List Ins} {hg hc ag bg : Nat} {bv : Nat → Value} {F : Nat → List Pr} {rv : Value} {aw : Nat → Int} {R : List Pr} {ks : List (Nat × Int)} (h : LineM n₀ hi W b X hg hc ag bg bv F rv aw R ks) (hb : Bel W W') : LineM n₀ hi W' b X hg hc ag bg bv F rv aw R ks :=
  h.kept (S := fun _ _ => False) (Kept.of_bel hb) (fun _ _ s => s.elim)
/-- What the heap's calls have turned. -/
theorem LineM.rdied {n₀ hi : Nat} {W W' : World} {b : Nat} {X : List Ins} {hg hc ag bg : Nat} {bv : Nat → Value} {F : Nat → List Pr} {rv rv' : Value} {aw : Nat → Int} {R R' : List Pr} {ks : List (Nat × Int)} (h : LineM n₀ hi W b X hg hc ag bg bv F rv aw R ks)
    (hr : RdyM n₀ W' b (.slice (some ⟨hg, 0, none⟩) X.length hc) (.slice (some ⟨ag, 0, none⟩) X.length X.length) (.slice (some ⟨bg, 0, none⟩) X.length X.length) rv' (.pointer (hdq ks)) (.pointer (lsq ks)) (.int .i64 ks.length) R') (hh : HeapOk R' R'.length) (hk : Kept (RS n₀ b) W W') : LineM n₀ hi W' b X hg hc ag bg bv F rv' aw R' ks := by
  obtain ⟨n1, n2, n3⟩ := h.ne
  refine ⟨hr, hh, hk.block hg _ h.hts ?_, hk.block ag _ h.awt ?_, h.beh.kept hk ?_ ?_, h.lnk.kept hk ?_, h.hgl, h.agl, h.hne⟩
  · rintro (s | ⟨_, s⟩); exact n1 s; exact absurd s (by unfold tag intB; simp)
  · rintro (s | ⟨_, s⟩); exact n2 s; exact absurd s (by unfold tag intB; simp)
  · rintro c (s | ⟨_, s⟩); exact n3 s; exact absurd s (by unfold tag; simp)
  · rintro g c hg (s | ⟨_, s⟩)
    · rw [s, h.rdy.box] at hg; injection hg with hg; injection hg with _ hg _; exact absurd hg (by decide)
    · exact absurd s (by unfold tag; simp)
  · rintro g c hg (s | ⟨_, s⟩)
    · rw [s, h.rdy.box] at hg; injection hg with hg; injection hg with _ hg _; exact absurd hg (by decide)
    · exact absurd s (by unfold tag; simp)

theorem LineM.cells {n₀ hi : Nat} {W : World} {b : Nat} {X : List Ins} {hg hc ag bg : Nat} {bv : Nat → Value} {F : Nat → List Pr} {rv : Value} {aw : Nat → Int} {R : List Pr} {ks : List (Nat × Int)} (h : LineM n₀ hi W b X hg hc ag bg bv F rv aw R ks) :
    W.cell? ⟨b, 0, none⟩ = some (.slice (some ⟨hg, 0, none⟩) X.length hc) ∧ W.cell? ⟨b, 1, none⟩ = some (.slice (some ⟨ag, 0, none⟩) X.length X.length) ∧ W.cell? ⟨b, 2, none⟩ = some (.slice (some ⟨bg, 0, none⟩) X.length X.length) ∧ W.cell? ⟨b, 3, none⟩ = some rv ∧ W.cell? ⟨b, 4, none⟩ = some (.pointer (hdq ks)) ∧ W.cell? ⟨b, 5, none⟩ = some (.pointer (lsq ks)) ∧ W.cell? ⟨b, 6, none⟩ = some (.int .i64 ks.length) :=
  ⟨cell_of h.rdy.box 0, cell_of h.rdy.box 1, cell_of h.rdy.box 2, cell_of h.rdy.box 3, cell_of h.rdy.box 4, cell_of h.rdy.box 5, cell_of h.rdy.box 6⟩

set_option maxHeartbeats 2000000 in
theorem may_any (n₀ hi b : Nat) (X : List Ins) (hg hc ag bg : Nat) (bv : Nat → Value) (F : Nat → List Pr) (rv : Value) (aw : Nat → Int) (R : List Pr) (ks : List (Nat × Int)) (j : Nat) (hj : j < X.length) (hl : R.length < 10000) (W : World)
    (h : LineM n₀ hi W b X hg hc ag bg bv F rv aw R ks) :
    Calls Try.prog 38 #[.pointer (some ⟨b, 0, none⟩), .int .i64 j] W fun e W' => e = .returned (.tuple #[]) ∧ ∃ rv' R', LineM n₀ hi W' b X hg hc ag bg bv F rv' aw R' ks ∧ R'.Perm (((j : Int), hAt X j) :: R) ∧ Kept (RS n₀ b) W W' := by
  obtain ⟨k0, _, _, _⟩ := h.cells
  have kh := int_cell h.hts j hj
  have hcall : ∀ ww, Bel W ww → _ := fun ww hb => hpush_any n₀ b _ _ _ rv _ _ _ R ((j : Int), hAt X j) hl ww (h.bel hb).rdy h.heap
  have HL := hidm h
  have hjl : (j : Int) < X.length := by omega
  unfold Cnd at hcall
  generalize hAt X j = y at *
  clear h
  go_enter Try.func38, Try.ntmps38
  go_wp2
  go_region_with (go_at_call 52; refine (hcall _ ((Bel.refl W).drew)).mono ?_; rintro e w2 ⟨rfl, rv', R', r1, r2, r3, r4⟩)
  all_goals
    go_wp2
    go_end0
    have r5 := (Kept.drew (RS n₀ b) W).trans r4
    exact ⟨rfl, rv', R', HL.out.rdied r1 r3 r5, r2, r5⟩
end
section
set_option linter.unusedVariables false
open Go.ChangeShapes Go.WideShapes Go.ChangeAt Go.RowKit

/-- What the queue's calls may turn. -/
def QS (n₀ b k : Nat) (o : Obj) : Prop := k = b ∨ (n₀ ≤ k ∧ tag o = some 96)
theorem QS.ls {n₀ b ag k : Nat} {o : Obj} (h : QS n₀ b k o) : LS n₀ b ag k o := by
  rcases h with h | ⟨h1, h2⟩
  · exact .inl h
  · exact .inr (.inr ⟨h1, .inr h2⟩)
theorem QS.link {n₀ b k : Nat} {W : World} {c : Array Value} {f : Nat × Nat} (h : W.heap[k]? = some (.cells c 96 f)) (hn : n₀ ≤ k) : ∀ o, W.heap[k]? = some o → QS n₀ b k o := by
  intro o e; rw [h] at e; injection e with e; subst e; exact .inr ⟨hn, rfl⟩
section
variable {n₀ hi : Nat} {W W' : World} {b : Nat} {X : List Ins} {hg hc ag bg : Nat} {bv : Nat → Value} {F : Nat → List Pr} {rv : Value} {aw : Nat → Int} {R : List Pr} {ks ks' : List (Nat × Int)}
theorem LineM.queued (h : LineM n₀ hi W b X hg hc ag bg bv F rv aw R ks)
    (hb : W'.heap[b]? = some (.cells #[.slice (some ⟨hg, 0, none⟩) X.length hc, .slice (some ⟨ag, 0, none⟩) X.length X.length, .slice (some ⟨bg, 0, none⟩) X.length X.length, rv, .pointer (hdq ks'), .pointer (lsq ks'), .int .i64 ks'.length] 50)) (hl : LnkM n₀ W' ks') (hk : Kept (QS n₀ b) W W') : LineM n₀ hi W' b X hg hc ag bg bv F rv aw R ks' := by
  obtain ⟨n1, n2, n3⟩ := h.ne
  refine ⟨⟨hb, own2_kept h.rdy.row hk ?_, h.rdy.low⟩, h.heap, hk.block hg _ h.hts ?_, hk.block ag _ h.awt ?_, h.beh.kept hk ?_ ?_, hl, h.hgl, h.agl, h.hne⟩
  · rintro g c f q (s | ⟨_, s⟩); exact h.rdy.ne (by rw [q, s]); exact absurd s (by unfold tag; simp)
  · rintro (s | ⟨_, s⟩); exact n1 s; exact absurd s (by unfold tag intB; simp)
  · rintro (s | ⟨_, s⟩); exact n2 s; exact absurd s (by unfold tag intB; simp)
  · rintro c (s | ⟨_, s⟩); exact n3 s; exact absurd s (by unfold tag; simp)
  · rintro g c hg (s | ⟨_, s⟩)
    · rw [s, h.rdy.box] at hg; injection hg with hg; injection hg with _ hg _; exact absurd hg (by decide)
    · exact absurd s (by unfold tag; simp)
theorem LineM.lne (h : LineM n₀ hi W b X hg hc ag bg bv F rv aw R ks) : ∀ p ∈ ks, p.1 ≠ b := by
  intro p hp e
  obtain ⟨q, hq⟩ := h.lnk.links.at p hp
  rw [e, h.rdy.box] at hq
  injection hq with hq
  injection hq with _ hq _
  exact absurd hq (by decide)
end
theorem linkInfo : (Try.prog.info? 96).map (fun i => (i.zero, i.size, i.bytes)) = some (some (.agg #[.int .i64 0, .pointer none]), 2, 16) := by kernel_rfl

theorem qset {W : World} {b : Nat} {c0 c1 c2 c3 c4 c5 c6 : Value} (h : W.heap[b]? = some (.cells #[c0, c1, c2, c3, c4, c5, c6] 50)) (u0 u1 u2 : Value) :
    (((W.setCell ⟨b, 4, none⟩ u0).setCell ⟨b, 5, none⟩ u1).setCell ⟨b, 6, none⟩ u2).heap[b]? = some (.cells #[c0, c1, c2, c3, u0, u1, u2] 50) := by
  have h1 := heap_set_same (o := 4) (u := u0) h
  have h2 := heap_set_same (o := 5) (u := u1) h1
  have h3 := heap_set_same (o := 6) (u := u2) h2
  exact h3

set_option maxHeartbeats 1000000 in
theorem qpop_nil (n₀ hi b : Nat) (X : List Ins) (hg hc ag bg : Nat) (bv : Nat → Value) (F : Nat → List Pr) (rv : Value) (aw : Nat → Int) (R : List Pr) (W : World)
    (h : LineM n₀ hi W b X hg hc ag bg bv F rv aw R []) :
    Calls Try.prog 53 #[.pointer (some ⟨b, 4, none⟩)] W fun e W' => e = .returned (.tuple #[.int .i64 0, .bool false]) ∧ W' = W := by
  obtain ⟨_, _, _, _, c4, _, _⟩ := h.cells
  have c4' : W.cell? ⟨b, 4, none⟩ = some (.pointer none) := c4
  clear c4
  go_enter Try.func53, Try.ntmps53
  go_wp2
  go_ret2
  exact ⟨rfl, rfl⟩

set_option maxHeartbeats 1000000 in
theorem qpop_one (n₀ hi b : Nat) (X : List Ins) (hg hc ag bg : Nat) (bv : Nat → Value) (F : Nat → List Pr) (rv : Value) (aw : Nat → Int) (R : List Pr) (k : Nat) (x : Int) (W : World)
    (h : LineM n₀ hi W b X hg hc ag bg bv F rv aw R [(k, x)]) :
    Calls Try.prog 53 #[.pointer (some ⟨b, 4, none⟩)] W fun e W' => e = .returned (.tuple #[.int .i64 x, .bool true]) ∧ LineM n₀ hi W' b X hg hc ag bg bv F rv aw R [] ∧ Kept (QS n₀ b) W W' := by
  have hne : k ≠ b := h.lne (k, x) (by simp)
  obtain ⟨_, _, _, _, c0, c1, c2⟩ := h.cells
  have c0' : W.cell? ⟨b, 4, none⟩ = some (.pointer (some ⟨k, 0, none⟩)) := c0
  have c1' : W.cell? ⟨b, 5, none⟩ = some (.pointer (some ⟨k, 0, none⟩)) := c1
  have c2' : W.cell? ⟨b, 6, none⟩ = some (.int .i64 1) := c2
  clear c0 c1 c2
  have d0 : W.cell? ⟨k, 0, none⟩ = some (.int .i64 x) := cell_of h.lnk.links.1 0
  have f0 := frozen_of h.rdy.box 4
  have f1 := frozen_of h.rdy.box 5
  have f2 := frozen_of h.rdy.box 6
  have HL := hidm h
  have he := run_eql_ptr_same (P := Try.prog) W (tp := 46) (te := 96) ⟨k, 0, none⟩ Try.underlying46 (info_parts linkInfo).choose_spec.1
  clear h
  go_enter Try.func53, Try.ntmps53
  go_wp2
  go_ret2
  refine ⟨rfl, ?_⟩
  have hk : Kept (QS n₀ b) W (((W.setCell ⟨b, 4, none⟩ (Value.pointer none)).setCell ⟨b, 5, none⟩ (Value.pointer none)).setCell ⟨b, 6, none⟩ (Value.int .i64 0)) :=
    ((Kept.setCell _ _ _ _ (fun _ _ => .inl rfl)).trans (Kept.setCell _ _ _ _ (fun _ _ => .inl rfl))).trans (Kept.setCell _ _ _ _ (fun _ _ => .inl rfl))
  exact ⟨HL.out.queued (qset HL.out.rdy.box _ _ _) ⟨trivial, by simp, by simp⟩ hk, hk⟩

set_option maxHeartbeats 1000000 in
theorem qpop_more (n₀ hi b : Nat) (X : List Ins) (hg hc ag bg : Nat) (bv : Nat → Value) (F : Nat → List Pr) (rv : Value) (aw : Nat → Int) (R : List Pr) (k : Nat) (x : Int) (y : Nat × Int) (s : List (Nat × Int)) (hlen : s.length < 1000000000) (W : World)
    (h : LineM n₀ hi W b X hg hc ag bg bv F rv aw R ((k, x) :: y :: s)) :
    Calls Try.prog 53 #[.pointer (some ⟨b, 4, none⟩)] W fun e W' => e = .returned (.tuple #[.int .i64 x, .bool true]) ∧ LineM n₀ hi W' b X hg hc ag bg bv F rv aw R (y :: s) ∧ Kept (QS n₀ b) W W' := by
  have hne : k ≠ b := h.lne (k, x) (by simp)
  obtain ⟨m, hm, hin⟩ := lsq_mem y s
  have nd := h.lnk.nodup
  rw [List.map_cons, List.nodup_cons] at nd
  have hkm : k ≠ m := by
    intro e
    subst e
    exact nd.1 hin
  obtain ⟨_, _, _, _, c0, c1, c2⟩ := h.cells
  have c0' : W.cell? ⟨b, 4, none⟩ = some (.pointer (some ⟨k, 0, none⟩)) := c0
  have c1' : W.cell? ⟨b, 5, none⟩ = some (.pointer (some ⟨m, 0, none⟩)) := c1.trans (by rw [← hm]; rfl)
  have c2' : W.cell? ⟨b, 6, none⟩ = some (.int .i64 (s.length + 1 + 1)) := c2.trans (by simp)
  clear c0 c1 c2
  have d0 : W.cell? ⟨k, 0, none⟩ = some (.int .i64 x) := cell_of h.lnk.links.1 0
  have d1 : W.cell? ⟨k, 1, none⟩ = some (.pointer (hdq (y :: s))) := cell_of h.lnk.links.1 1
  have f0 := frozen_of h.rdy.box 4
  have f2 := frozen_of h.rdy.box 6
  obtain ⟨pm, hpm, rfl⟩ := List.mem_map.1 hin
  obtain ⟨qm, hqm⟩ := h.lnk.links.2.at pm hpm
  obtain ⟨i0, hi0, hz0, hz1, hz2⟩ := info_parts linkInfo
  have he := run_eql_ptr_other (P := Try.prog) W (tp := 46) (te := 96) (a := ⟨k, 0, none⟩) (b := ⟨pm.1, 0, none⟩) Try.underlying46 hi0 (by omega) (fun e => hkm (congrArg Addr.block e)) h.lnk.links.1 hqm
  have HL := hidm h
  clear h
  go_enter Try.func53, Try.ntmps53
  go_wp2
  go_ret2
  have h1 := heap_set_same (o := 4) (u := Value.pointer (hdq (y :: s))) HL.out.rdy.box
  have h2 := heap_set_same (o := 6) (u := Value.int .i64 (s.length + 1)) h1
  have hk : Kept (QS n₀ b) W ((W.setCell ⟨b, 4, none⟩ (Value.pointer (hdq (y :: s)))).setCell ⟨b, 6, none⟩ (Value.int .i64 (s.length + 1))) :=
    (Kept.setCell _ _ _ _ (fun _ _ => .inl rfl)).trans (Kept.setCell _ _ _ _ (fun _ _ => .inl rfl))
  refine ⟨rfl, HL.out.queued h2 ⟨?_, nd.2, fun p hp => HL.out.lnk.lows p (by simp at hp ⊢; exact .inr hp)⟩ hk, hk⟩
  refine HL.out.lnk.links.2.kept fun p hp => ?_
  have e2 : p.1 ≠ b := HL.out.lne p (by simp at hp ⊢; exact .inr hp)
  exact (heap_set_other e2).trans (heap_set_other e2)
theorem qpop_cons (n₀ hi b : Nat) (X : List Ins) (hg hc ag bg : Nat) (bv : Nat → Value) (F : Nat → List Pr) (rv : Value) (aw : Nat → Int) (R : List Pr) (k : Nat) (x : Int) (s : List (Nat × Int)) (hlen : s.length < 1000000000) (W : World)
    (h : LineM n₀ hi W b X hg hc ag bg bv F rv aw R ((k, x) :: s)) :
    Calls Try.prog 53 #[.pointer (some ⟨b, 4, none⟩)] W fun e W' => e = .returned (.tuple #[.int .i64 x, .bool true]) ∧ LineM n₀ hi W' b X hg hc ag bg bv F rv aw R s ∧ Kept (QS n₀ b) W W' := by
  cases s with
  | nil => exact qpop_one n₀ hi b X hg hc ag bg bv F rv aw R k x W h
  | cons y s => exact qpop_more n₀ hi b X hg hc ag bg bv F rv aw R k x y s (by simp at hlen; omega) W h

set_option maxHeartbeats 1000000 in
theorem qpush_nil (n₀ hi b : Nat) (X : List Ins) (hg hc ag bg : Nat) (bv : Nat → Value) (F : Nat → List Pr) (rv : Value) (aw : Nat → Int) (R : List Pr) (v : Int) (W : World)
    (h : LineM n₀ hi W b X hg hc ag bg bv F rv aw R []) :
    Calls Try.prog 55 #[.pointer (some ⟨b, 4, none⟩), .int .i64 v] W fun e W' => e = .returned (.tuple #[]) ∧ LineM n₀ hi W' b X hg hc ag bg bv F rv aw R [(W.heap.size, v)] ∧ Kept (QS n₀ b) W W' := by
  have hb := h.blt
  have hlow := h.rdy.low
  obtain ⟨_, _, _, _, c0, c1, c2⟩ := h.cells
  have c0' : W.cell? ⟨b, 4, none⟩ = some (.pointer none) := c0
  have c1' : W.cell? ⟨b, 5, none⟩ = some (.pointer none) := c1
  have c2' : W.cell? ⟨b, 6, none⟩ = some (.int .i64 0) := c2
  clear c0 c1 c2
  have f0 := frozen_of h.rdy.box 4
  have f1 := frozen_of h.rdy.box 5
  have f2 := frozen_of h.rdy.box 6
  have HL := hidm h
  clear h
  go_enter Try.func55, Try.ntmps55
  go_wp2
  go_end0
  have hk : Kept (QS n₀ b) W ((((W.setCell ⟨b, 4, none⟩ (Value.pointer (some ⟨W.heap.size, 0, none⟩))).setCell ⟨b, 5, none⟩ (Value.pointer (some ⟨W.heap.size, 0, none⟩))).setCell ⟨b, 6, none⟩ (Value.int IntKind.i64 1)).alloc (.cells #[.int .i64 v, .pointer none] 96)) :=
    (((Kept.setCell _ _ _ _ (fun _ _ => .inl rfl)).trans (Kept.setCell _ _ _ _ (fun _ _ => .inl rfl))).trans (Kept.setCell _ _ _ _ (fun _ _ => .inl rfl))).trans (Kept.alloc _ _ _)
  refine ⟨rfl, HL.out.queued (heap_old (qset HL.out.rdy.box _ _ _)) ⟨⟨?_, trivial⟩, by simp, by simp; omega⟩ hk, hk⟩
  have := heap_new (((W.setCell ⟨b, 4, none⟩ (Value.pointer (some ⟨W.heap.size, 0, none⟩))).setCell ⟨b, 5, none⟩ (Value.pointer (some ⟨W.heap.size, 0, none⟩))).setCell ⟨b, 6, none⟩ (Value.int IntKind.i64 1)) (.cells #[.int .i64 v, .pointer none] 96)
  rw [size_set, size_set, size_set] at this
  exact this

set_option maxHeartbeats 1000000 in
theorem qpush_snoc (n₀ hi b : Nat) (X : List Ins) (hg hc ag bg : Nat) (bv : Nat → Value) (F : Nat → List Pr) (rv : Value) (aw : Nat → Int) (R : List Pr) (l : List (Nat × Int)) (kl : Nat) (xl v : Int) (hlen : l.length < 1000000000) (W : World)
    (h : LineM n₀ hi W b X hg hc ag bg bv F rv aw R (l ++ [(kl, xl)])) :
    Calls Try.prog 55 #[.pointer (some ⟨b, 4, none⟩), .int .i64 v] W fun e W' => e = .returned (.tuple #[]) ∧ LineM n₀ hi W' b X hg hc ag bg bv F rv aw R (l ++ [(kl, xl)] ++ [(W.heap.size, v)]) ∧ Kept (QS n₀ b) W W' := by
  have hb := h.blt
  have hlow := h.rdy.low
  have hL := h.lnk.links.last
  have hk := lt_of_heap hL
  have hne : kl ≠ b := h.lne (kl, xl) (by simp)
  have hne' : b ≠ kl := hne.symm
  obtain ⟨_, _, _, _, c0, c1, c2⟩ := h.cells
  have c1' : W.cell? ⟨b, 5, none⟩ = some (.pointer (some ⟨kl, 0, none⟩)) := c1.trans (by rw [lsq_snoc])
  have c2' : W.cell? ⟨b, 6, none⟩ = some (.int .i64 (l.length + 1)) := c2.trans (by simp)
  clear c1 c2
  have d1 : W.cell? ⟨kl, 1, none⟩ = some (.pointer none) := cell_of hL 1
  have f1 := frozen_of h.rdy.box 5
  have f2 := frozen_of h.rdy.box 6
  have g1 := frozen_of hL 1
  have HL := hidm h
  clear h
  go_enter Try.func55, Try.ntmps55
  go_wp2
  go_end0
  have nd := HL.out.lnk.nodup
  rw [List.map_append, List.nodup_append] at nd
  have b1 := (heap_set_other (o := 1) (u := Value.pointer (some ⟨W.heap.size, 0, none⟩)) hne').trans HL.out.rdy.box
  have b2 := heap_set_same (o := 5) (u := Value.pointer (some ⟨W.heap.size, 0, none⟩)) b1
  have b3 := heap_set_same (o := 6) (u := Value.int .i64 (l.length + 1 + 1)) b2
  have l1 := heap_set_same (o := 1) (u := Value.pointer (some ⟨W.heap.size, 0, none⟩)) hL
  have l3 := (heap_set_other (o := 6) (u := Value.int .i64 (l.length + 1 + 1)) hne).trans ((heap_set_other (o := 5) (u := Value.pointer (some ⟨W.heap.size, 0, none⟩)) hne).trans l1)
  have hkk : Kept (QS n₀ b) W ((((W.setCell ⟨kl, 1, none⟩ (Value.pointer (some ⟨W.heap.size, 0, none⟩))).setCell ⟨b, 5, none⟩ (Value.pointer (some ⟨W.heap.size, 0, none⟩))).setCell ⟨b, 6, none⟩ (Value.int IntKind.i64 (l.length + 1 + 1))).alloc (.cells #[.int .i64 v, .pointer none] 96)) :=
    (((Kept.setCell (QS n₀ b) W ⟨kl, 1, none⟩ _ (QS.link hL (HL.out.lnk.lows (kl, xl) (by simp)))).trans (Kept.setCell (QS n₀ b) _ ⟨b, 5, none⟩ _ (fun _ _ => .inl rfl))).trans (Kept.setCell (QS n₀ b) _ ⟨b, 6, none⟩ _ (fun _ _ => .inl rfl))).trans (Kept.alloc _ _ _)
  refine ⟨rfl, HL.out.queued ?_ ⟨?_, ?_, ?_⟩ hkk, hkk⟩
  · refine heap_old (b3.trans ?_)
    have e1 : lsq (l ++ [(kl, xl)] ++ [(W.heap.size, v)]) = some ⟨W.heap.size, 0, none⟩ := lsq_snoc _ _ _
    have e2 : hdq (l ++ [(kl, xl)] ++ [(W.heap.size, v)]) = hdq (l ++ [(kl, xl)]) := hdq_app _ _ (by simp)
    have e3 : ((l ++ [(kl, xl)] ++ [(W.heap.size, v)]).length : Int) = l.length + 1 + 1 := by simp; omega
    rw [e1, e2, e3]
    rfl
  · refine Links.snoc HL.out.lnk.links (fun p hp => ?_) (heap_old l3) ?_
    · obtain ⟨q, hq⟩ := HL.out.lnk.links.at p (by simp [hp])
      have e1 : p.1 ≠ kl := nd.2.2 p.1 (List.mem_map_of_mem hp) kl (by simp)
      have e2 : p.1 ≠ b := HL.out.lne p (by simp [hp])
      rw [hq]
      exact heap_old ((heap_set_other e2).trans ((heap_set_other e2).trans ((heap_set_other e1).trans hq)))
    · have := heap_new (((W.setCell ⟨kl, 1, none⟩ (Value.pointer (some ⟨W.heap.size, 0, none⟩))).setCell ⟨b, 5, none⟩ (Value.pointer (some ⟨W.heap.size, 0, none⟩))).setCell ⟨b, 6, none⟩ (Value.int IntKind.i64 (l.length + 1 + 1))) (.cells #[.int .i64 v, .pointer none] 96)
      rw [size_set, size_set, size_set] at this
      exact this
  · rw [List.map_append, List.nodup_append]
    refine ⟨HL.out.lnk.nodup, by simp, ?_⟩
    intro a ha c hc e
    simp only [List.map_cons, List.map_nil, List.mem_singleton] at hc
    subst hc
    subst e
    obtain ⟨p, hp, e⟩ := List.mem_map.1 ha
    obtain ⟨q, hq⟩ := HL.out.lnk.links.at p hp
    have := lt_of_heap hq
    omega
  · intro p hp
    rcases List.mem_append.1 hp with hp | hp
    · exact HL.out.lnk.lows p hp
    · simp only [List.mem_singleton] at hp
      subst hp
      show n₀ ≤ W.heap.size
      omega
theorem qpush_any (n₀ hi b : Nat) (X : List Ins) (hg hc ag bg : Nat) (bv : Nat → Value) (F : Nat → List Pr) (rv : Value) (aw : Nat → Int) (R : List Pr) (ks : List (Nat × Int)) (v : Int) (hlen : ks.length < 1000000000) (W : World)
    (h : LineM n₀ hi W b X hg hc ag bg bv F rv aw R ks) :
    Calls Try.prog 55 #[.pointer (some ⟨b, 4, none⟩), .int .i64 v] W fun e W' => e = .returned (.tuple #[]) ∧ LineM n₀ hi W' b X hg hc ag bg bv F rv aw R (ks ++ [(W.heap.size, v)]) ∧ Kept (QS n₀ b) W W' := by
  rcases List.eq_nil_or_concat ks with rfl | ⟨l, ⟨kl, xl⟩, rfl⟩
  · exact qpush_nil n₀ hi b X hg hc ag bg bv F rv aw R v W h
  · rw [List.concat_eq_append] at h hlen ⊢
    exact qpush_snoc n₀ hi b X hg hc ag bg bv F rv aw R l kl xl v (by simp at hlen; omega) W h
end
end Go.Proofs.Ytpmofaajkhllpaa
