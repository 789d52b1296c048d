/-
  The rows of followers: one more; the line at its beginning.
  The contract of lineOf.
-/
import Derived.Test.YtpmofaajkhllpaaLx11
import Derived.Test.YtpmofaajkhllpaaTb11
import Derived.Test.YtpmofaajkhllpaaDh
import Derived.Deep.Cut
import Derived.Deep.CutRange
namespace Go.Proofs.Ytpmofaajkhllpaa
set_option maxRecDepth 20000
section
set_option linter.unusedVariables false
open Go.ChangeShapes Go.WideShapes Go.ChangeAt Go.RowKit

theorem folInfo : (Try.prog.info? 57).map (fun i => (i.zero, i.size, i.bytes)) = some (some (.agg #[.int .i64 0, .int .i64 0]), 2, 16) := by kernel_rfl
theorem cellN {W : World} {b n : Nat} {t : TypeId} {tv : Nat → Value} (h : W.heap[b]? = some (.cells ((Array.range n).map tv) t)) (i : Nat) (hi : i < n) : W.cell? ⟨b, i, none⟩ = some (tv i) := by
  refine (cell_of h i).trans ?_
  simp [hi]
theorem BehM.ne {n₀ : Nat} {W : World} {n bg : Nat} {bv : Nat → Value} {F : Nat → List Pr} (h : BehM n₀ W n bg bv F) (i : Nat) (hi : i < n) : (bv i).ownBlock ≠ some bg := by
  intro e
  obtain ⟨_, cur, hc⟩ := own2_block (h.rows i hi) bg e
  rw [h.beh] at hc
  injection hc with hc
  injection hc with _ hc _
  exact absurd hc (by decide)
theorem BehM.pushed {n₀ : Nat} {W w1 : World} {n bg : Nat} {bv : Nat → Value} {F : Nat → List Pr} (h : BehM n₀ W n bg bv F) (i : Nat) (hi : i < n) (p : Pr) (W2 : World) (h2 : ∀ S, Kept S W W2) (g cap H : Nat)
    (hown : w1.ownsRow n₀ 57 2 (.slice (some ⟨g, 0, none⟩) ((F i).length + 1) cap) ((F i).length + 1) (flat2 (F i) ++ [.int .i64 p.1, .int .i64 p.2])) (hgrow : W2.grownBy w1 (bv i).ownBlock) (hat : (bv i).ownBlock = some g ∨ g = H) (hH : W.heap.size ≤ H) :
    BehM n₀ (w1.setCell ⟨bg, i, none⟩ (.slice (some ⟨g, 0, none⟩) ((F i).length + 1) cap)) n bg (updV bv i (.slice (some ⟨g, 0, none⟩) ((F i).length + 1) cap)) (updV F i (F i ++ [p])) ∧ Kept (fun k _ => k = bg ∨ (bv i).ownBlock = some k) W (w1.setCell ⟨bg, i, none⟩ (.slice (some ⟨g, 0, none⟩) ((F i).length + 1) cap)) := by
  have kk : Kept (fun k _ => (bv i).ownBlock = some k) W w1 := (h2 _).trans (Kept.grown hgrow fun k o' e _ => e)
  have hb1 := kk.block bg _ h.beh (h.ne i hi)
  have hlt := lt_of_heap h.beh
  have hgb : g ≠ bg := fun e => by
    rcases hat with q | q
    · exact h.ne i hi (by rw [q, e])
    · omega
  have kset : ∀ v, Kept (fun k _ => k = bg) w1 (w1.setCell ⟨bg, i, none⟩ v) := fun v => Kept.setCell _ _ _ _ (fun _ _ => rfl)
  have old : ∀ j, j < n → ∀ k, (bv j).ownBlock = some k → k < W.heap.size := fun j hj k q => by
    obtain ⟨_, cur, hc⟩ := own2_block (h.rows j hj) k q
    exact lt_of_heap hc
  refine ⟨⟨?_, fun j hj => ?_, fun a b ha hb hab k => ?_, h.low⟩, (kk.mono fun k o _ e => .inr e).trans ((kset _).mono fun _ _ _ e => .inl e)⟩
  · refine (heap_set_same hb1).trans ?_
    congr 2
    apply Array.ext_getElem?
    intro k
    rw [Array.getElem?_setIfInBounds]
    by_cases e : i = k
    · subst e
      simp [hi, updV]
    · rw [if_neg e]
      by_cases hk : k < n
      · simp [hk, updV, show ¬ k = i from fun q => e q.symm]
      · simp [hk]
  · unfold updV
    by_cases e : j = i
    · simp only [e, if_true]
      have e1 : (F i ++ [p]).length = (F i).length + 1 := by simp
      rw [e1, flat2_app]
      exact own2_kept hown (kset _) (fun k c f q s => hgb (by have : g = k := (by simpa [Value.ownBlock] using q); omega))
    · simp only [e, if_false]
      refine own2_kept (own2_kept (h.rows j hj) kk (fun k c f q s => h.dis j i hj hi e k q s)) (kset _) (fun k c f q s => h.ne j hj (by rw [q, s]))
  · have new : ∀ k, Value.ownBlock (.slice (some ⟨g, 0, none⟩) ((F i).length + 1) cap) = some k → (bv i).ownBlock = some k ∨ W.heap.size ≤ k := fun k q => by
      obtain rfl : g = k := by simpa [Value.ownBlock] using q
      rcases hat with q | q
      · exact .inl q
      · exact .inr (by omega)
    unfold updV
    by_cases e1 : a = i
    · by_cases e2 : b = i
      · omega
      · simp only [e1, e2, if_true, if_false]
        intro q q2
        rcases new k q with q3 | q3
        · exact h.dis i b hi hb (fun x => e2 x.symm) k q3 q2
        · have := old b hb k q2
          omega
    · by_cases e2 : b = i
      · simp only [e1, e2, if_true, if_false]
        intro q q2
        rcases new k q2 with q3 | q3
        · exact h.dis a i ha hi e1 k q q3
        · have := old a ha k q
          omega
      · simp only [e1, e2, if_false]
        exact h.dis a b ha hb hab k
/-- The line, its rows of followers written on. -/
theorem LineM.behd {n₀ hi : Nat} {W W' : World} {b : Nat} {X : List Ins} {hg hc ag bg : Nat} {bv bv' : Nat → Value} {F F' : Nat → List Pr} {rv : Value} {aw : Nat → Int} {R : List Pr} {ks : List (Nat × Int)} (h : LineM n₀ hi W b X hg hc ag bg bv F rv aw R ks) (i : Nat) (hil : i < X.length)
    (hB : BehM n₀ W' X.length bg bv' F') (hk : Kept (fun k _ => k = bg ∨ (bv i).ownBlock = some k) W W') : LineM n₀ hi W' b X hg hc ag bg bv' F' rv aw R ks := by
  obtain ⟨n1, n2, n3⟩ := h.ne
  have key : ∀ g c t, W.heap[g]? = some (.cells c t) → t ≠ 55 → t ≠ 57 → ¬ (g = bg ∨ (bv i).ownBlock = some g) := fun g c t hg h1 h2 e => by
    rcases e with e | e
    · rw [e, h.beh.beh] at hg
      injection hg with hg
      injection hg with _ hg _
      exact h1 hg.symm
    · obtain ⟨_, cur, hcur⟩ := own2_block (h.beh.rows i hil) g e
      rw [hg] at hcur
      injection hcur with hcur
      injection hcur with _ hcur _
      exact h2 hcur
  refine ⟨⟨hk.block b _ h.rdy.box (key _ _ _ h.rdy.box (by decide) (by decide)), ?_, h.rdy.low⟩, h.heap, hk.block hg _ h.hts (key _ _ _ h.hts (by decide) (by decide)), hk.block ag _ h.awt (key _ _ _ h.awt (by decide) (by decide)), hB, h.lnk.kept hk (fun g c q => key g c _ q (by decide) (by decide)), h.hgl, h.agl, h.hne⟩
  refine own2_kept h.rdy.row hk fun g c f q s => ?_
  obtain ⟨_, cur, hcur⟩ := own2_block h.rdy.row g q
  exact key g _ _ hcur (by decide) (by decide) s
theorem LineM.cong {n₀ hi : Nat} {W : World} {b : Nat} {X : List Ins} {hg hc ag bg : Nat} {bv : Nat → Value} {F F' : Nat → List Pr} {rv : Value} {aw aw' : Nat → Int} {R : List Pr} {ks : List (Nat × Int)} (h : LineM n₀ hi W b X hg hc ag bg bv F rv aw R ks) (hF : ∀ i, i < X.length → F i = F' i) (ha : ∀ i, i < X.length → aw i = aw' i) : LineM n₀ hi W b X hg hc ag bg bv F' rv aw' R ks :=
  ⟨h.rdy, h.heap, h.hts, by rw [h.awt, intB_cong ha], ⟨h.beh.beh, fun j hj => by rw [← hF j hj]; exact h.beh.rows j hj, h.beh.dis, h.beh.low⟩, h.lnk, h.hgl, h.agl, h.hne⟩
/-- make([][]follower, n). -/
theorem make_beh (n : Nat) (hn : n ≤ 100000) (z : Int) (hz : z = n) (W : World) :
    (Instr.makeSlice 43 (.int .i64 z) (.int .i64 z)).run Try.prog W = .ok (.slice (some ⟨W.heap.size, 0, none⟩) n n) (W.alloc (.cells ((Array.range n).map fun _ => Value.slice none 0 0) 55)) := by
  subst hz
  have hinfo : (Try.prog.info? 55).map (fun i => (i.zero, i.size, i.bytes)) = some (some (.slice none 0 0), 1, 24) := by kernel_rfl
  obtain ⟨i0, hi, hz0, hz1, hz2⟩ := info_parts hinfo
  have h := run_make (P := Try.prog) W 43 55 i0 _ Try.underlying43 hi hz0 .i64 .i64 n n (by omega) (by omega) (by rw [hz2]; omega) (by omega)
  rw [hz1] at h
  have e : madeCells (Value.slice none 0 0).cells (n * 1) = (Array.range n).map fun _ => Value.slice none 0 0 := by
    have hc : (Value.slice none 0 0).cells = #[.slice none 0 0] := rfl
    unfold madeCells
    rw [hc, Nat.mul_one]
    refine congrArg (fun f => Array.map f (Array.range n)) (funext fun i => ?_)
    simp [Nat.mod_one]
  rw [show ((n : Int).toNat * 1) = n * 1 from rfl, e] at h
  exact h
/-- A new trail. -/
def trl0 : Obj := .cells ((Array.range 65).map fun _ => Value.slice none 0 0) 53
theorem alloc_trail (w : World) : (Instr.alloc 53 true (.tuple #[])).run Try.prog w = .ok (.pointer (some ⟨w.heap.size, 0, none⟩)) (w.alloc trl0) := by kernel_rfl
theorem wpList_alloc_trail {ops : Array Oper} {rest : List Oper} {op : Oper} {a : Act} {w : World} {Q : Exit → Act → World → Prop} (hgd : op.guard = none) (ho : op.op = .alloc 53)
    (h : wpList Try.prog ops Q rest (a.put op.dst (.pointer (some ⟨w.heap.size, 0, none⟩))) (w.alloc trl0)) : wpList Try.prog ops Q (op :: rest) a w :=
  wpList_plain hgd fun _ hK => by
    unfold Oper.wp execOp
    simp only [ho, alloc_trail w, Sem.run_bind, Sem.run_pure, Result.andThen_ok]
    exact hK _ _ h
theorem trail_new (n₁ : Nat) (W : World) (X : List Ins) (h : n₁ ≤ W.heap.size) : TrM n₁ (W.alloc trl0) W.heap.size (fun _ => .slice none 0 0) X 0 := by
  refine ⟨heap_new _ _, fun i hi => ?_, fun i j _ _ _ g q => ?_, h⟩
  · have : trL X 0 i = [] := by
      unfold trL
      split
      · rfl
      · split <;> rfl
    rw [this]
    exact ownI_nil _ _
  · cases q
end
section
set_option linter.unusedVariables false
open Go.ChangeShapes Go.WideShapes Go.ChangeAt Go.RowKit

theorem line_new {n₀ hi : Nat} {W : World} {b : Nat} {X : List Ins} {hg hc ag bg : Nat} (hb : W.heap[b]? = some (.cells #[.slice (some ⟨hg, 0, none⟩) X.length hc, .slice (some ⟨ag, 0, none⟩) X.length X.length, .slice (some ⟨bg, 0, none⟩) X.length X.length, .slice none 0 0, .pointer none, .pointer none, .int .i64 0] 50))
    (h1 : W.heap[hg]? = some (intB (fun j => (hgt X).getD j 0) X.length)) (h2 : W.heap[ag]? = some (intB (fun _ => 0) X.length)) (h3 : W.heap[bg]? = some (.cells ((Array.range X.length).map fun _ => Value.slice none 0 0) 55))
    (hne : hg ≠ ag) (l0 : n₀ ≤ b) (l1 : n₀ ≤ hg) (l2 : n₀ ≤ ag) (l3 : n₀ ≤ bg) (u1 : hg < hi) (u2 : ag < hi) : LineM n₀ hi W b X hg hc ag bg (fun _ => .slice none 0 0) (fun _ => []) (.slice none 0 0) (fun _ => 0) [] [] := by
  refine ⟨⟨hb, World.ownsRow_nil _ _ _ _, l0⟩, fun k h0 hk => absurd hk (by simp), h1, h2, ⟨h3, fun j hj => World.ownsRow_nil _ _ _ _, fun i j _ _ _ k q => absurd q (by simp [Value.ownBlock]), l3⟩, ⟨trivial, by simp, by simp⟩, ⟨l1, u1⟩, ⟨l2, u2⟩, hne⟩
theorem code_bel {w w' : World} {v : Value} {X : List Ins} (h : Code w v X) (hb : Bel w w') : Code w' v X := by
  obtain ⟨ao, cap, rfl, r⟩ := h
  refine ⟨ao, cap, rfl, fun hn => ?_⟩
  obtain ⟨b, o, rfl, hlt, hc⟩ := r hn
  exact ⟨b, o, rfl, Nat.lt_of_lt_of_le hlt hb.size, hc.stay hlt hb⟩

/-- What has turned nothing but the trail. -/
theorem BehM.kept2 {S : Nat → Obj → Prop} {n₀ : Nat} {W W' : World} {n bg : Nat} {bv : Nat → Value} {F : Nat → List Pr} (h : BehM n₀ W n bg bv F) (hk : Kept S W W')
    (h1 : ¬ S bg (.cells ((Array.range n).map bv) 55)) (h2 : ∀ g c, W.heap[g]? = some (.cells c 57) → ¬ S g (.cells c 57)) : BehM n₀ W' n bg bv F :=
  ⟨hk.block bg _ h.beh h1, fun j hj => by
    obtain ⟨q0, q⟩ := h.rows j hj
    refine ⟨q0, ?_⟩
    rcases q with q | ⟨g, cap, cur, q1, q2, q3, q4⟩
    · exact .inl q
    · exact .inr ⟨g, cap, cur, q1, q2, hk.block g _ q3 (h2 _ _ q3), q4⟩, h.dis, h.low⟩
theorem LineM.trl {n₀ hi : Nat} {W W' : World} {b tb : Nat} {X : List Ins} {hg hc ag bg : Nat} {bv : Nat → Value} {F : Nat → List Pr} {rv : Value} {aw : Nat → Int} {R : List Pr} {ks : List (Nat × Int)} (h : LineM n₀ hi W b X hg hc ag bg bv F rv aw R ks) (hk : Kept (TS hi tb) W W')
    (ht : ∀ o, W.heap[tb]? = some o → tag o = some 53) : LineM n₀ hi W' b X hg hc ag bg bv F rv aw R ks := by
  have q1 := h.hgl
  have q2 := h.agl
  have key : ∀ g o, W.heap[g]? = some o → TS hi tb g o → tag o = some 53 ∨ (hi ≤ g ∧ tag o = some 3) := fun g o hg s => by
    rcases s with s | s
    · exact .inl (ht o (by rw [← s]; exact hg))
    · exact .inr s
  have key2 : ∀ g c t, W.heap[g]? = some (.cells c t) → t ≠ 53 → (t ≠ 3 ∨ g < hi) → ¬ TS hi tb g (.cells c t) := fun g c t hg h1 h2 s => by
    rcases key g _ hg s with e | e
    · exact h1 (by simpa [tag] using e)
    · rcases h2 with h2 | h2
      · exact h2 (by simpa [tag] using e.2)
      · omega
  refine ⟨⟨hk.block b _ h.rdy.box (key2 _ _ _ h.rdy.box (by decide) (.inl (by decide))), own2_kept h.rdy.row hk (fun g c f q => ?_), h.rdy.low⟩, h.heap, hk.block hg _ h.hts (key2 _ _ _ h.hts (by decide) (.inr q1.2)), hk.block ag _ h.awt (key2 _ _ _ h.awt (by decide) (.inr q2.2)),
    h.beh.kept2 hk (key2 _ _ _ h.beh.beh (by decide) (.inl (by decide))) (fun g c q => key2 g c _ q (by decide) (.inl (by decide))), h.lnk.kept hk (fun g c q => key2 g c _ q (by decide) (.inl (by decide))), h.hgl, h.agl, h.hne⟩
  obtain ⟨_, cur, hcur⟩ := own2_block h.rdy.row g q
  intro s
  rcases s with s | s
  · have := ht _ (by rw [← s]; exact hcur)
    exact absurd this (by simp [tag])
  · exact absurd s.2 (by simp [tag])
theorem LineM.hi_mono {n₀ hi hi' : Nat} {W : World} {b : Nat} {X : List Ins} {hg hc ag bg : Nat} {bv : Nat → Value} {F : Nat → List Pr} {rv : Value} {aw : Nat → Int} {R : List Pr} {ks : List (Nat × Int)} (h : LineM n₀ hi W b X hg hc ag bg bv F rv aw R ks) (hh : hi ≤ hi') : LineM n₀ hi' W b X hg hc ag bg bv F rv aw R ks :=
  ⟨h.rdy, h.heap, h.hts, h.awt, h.beh, h.lnk, ⟨h.hgl.1, Nat.lt_of_lt_of_le h.hgl.2 hh⟩, ⟨h.agl.1, Nat.lt_of_lt_of_le h.agl.2 hh⟩, h.hne⟩
/-- What the inner rounds of lineOf have made of the followers of c. -/
def inF (X : List Ins) (k m c : Nat) : List Pr := behL X c k ++ List.replicate (((ofL X k).take m).count (c : Int)) ((k : Int), farI (xAt X c) (xAt X k))
theorem inF_zero (X : List Ins) (k c : Nat) : inF X k 0 c = behL X c k := by simp [inF]
theorem inF_end (X : List Ins) (k c : Nat) : inF X k (ofL X k).length c = behL X c (k + 1) := by unfold inF; rw [List.take_length, behL_succ]
theorem inF_step (X : List Ins) (k m c : Nat) (hm : m < (ofL X k).length) (hc : (ofL X k).getD m 0 = c) (i : Nat) : updV (inF X k m) c (inF X k m c ++ [((k : Int), farI (xAt X c) (xAt X k))]) i = inF X k (m + 1) i := by
  have e : (ofL X k).take (m + 1) = (ofL X k).take m ++ [(c : Int)] := by rw [List.take_succ_eq_append_getElem hm, ← hc]; simp [List.getD, hm]
  unfold updV inF
  rw [e, List.count_append]
  by_cases q : i = c
  · subst q
    rw [if_pos rfl, List.append_assoc]
    simp [List.replicate_succ']
  · rw [if_neg q]
    have : List.count (i : Int) [(c : Int)] = 0 := by rw [List.count_eq_zero, List.mem_singleton]; omega
    rw [this, Nat.add_zero]
theorem inF_len (X : List Ins) (k m c : Nat) (hk : k ≤ 1000) : (inF X k m c).length ≤ 1200000 := by
  have h1 := behL_len X c k
  have h2 : k * (k + 4) ≤ 1000 * 1004 := Nat.mul_le_mul hk (by omega)
  have h3 := List.count_le_length (a := (c : Int)) (l := (ofL X k).take m)
  have h4 := ofL_len X k
  rw [List.length_take] at h3
  unfold inF
  rw [List.length_append, List.length_replicate]
  omega

/-- What writing on a row of followers leaves as it was. -/
theorem fol_key {n₀ : Nat} {W : World} {n bg : Nat} {bv : Nat → Value} {F : Nat → List Pr} (h : BehM n₀ W n bg bv F) (i : Nat) (hi : i < n) : ∀ g c t, W.heap[g]? = some (.cells c t) → t ≠ 55 → t ≠ 57 → ¬ (g = bg ∨ (bv i).ownBlock = some g) := fun g c t hg h1 h2 e => by
  rcases e with e | e
  · rw [e, h.beh] at hg
    injection hg with hg
    injection hg with _ hg _
    exact h1 hg.symm
  · obtain ⟨_, cur, hcur⟩ := own2_block (h.rows i hi) g e
    rw [hg] at hcur
    injection hcur with hcur
    injection hcur with _ hcur _
    exact h2 hcur
theorem ownI_fol {n₀ n₁ : Nat} {W W' : World} {n bg : Nat} {bv : Nat → Value} {F : Nat → List Pr} (h : BehM n₀ W n bg bv F) (i : Nat) (hi : i < n) (hk : Kept (fun k _ => k = bg ∨ (bv i).ownBlock = some k) W W') {v : Value} {L : List Int} (ho : OwnI n₁ W v L) : OwnI n₁ W' v L :=
  ownI_kept ho hk fun g c f q s => by
    obtain ⟨_, cur, hcur⟩ := ownI_block ho g q
    exact fol_key h i hi g _ _ hcur (by decide) (by decide) s
theorem TrM.fol {n₀ n₁ tb : Nat} {W W' : World} {n bg : Nat} {bv : Nat → Value} {F : Nat → List Pr} {tv : Nat → Value} {X : List Ins} {k : Nat} (ht : TrM n₁ W tb tv X k) (h : BehM n₀ W n bg bv F) (i : Nat) (hi : i < n) (hk : Kept (fun k _ => k = bg ∨ (bv i).ownBlock = some k) W W') : TrM n₁ W' tb tv X k :=
  ⟨hk.block tb _ ht.box (fol_key h i hi tb _ _ ht.box (by decide) (by decide)), fun j hj => ownI_fol h i hi hk (ht.rows j hj), ht.dis, ht.low⟩
end
end Go.Proofs.Ytpmofaajkhllpaa
