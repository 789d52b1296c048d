/-
  The heap of what may stand, in memory: the contracts of its methods.
  The heap of what may stand, in memory: Push and Pop of its own.
-/
import Derived.Test.YtpmofaajkhllpaaHpm
import Derived.Test.YtpmofaajkhllpaaLater
import Derived.Test.YtpmofaajkhllpaaAl
import Derived.Deep.RegionHeld3
import Derived.Deep.AppendLies
import Derived.Deep.RegionLaw
namespace Go.Proofs.Ytpmofaajkhllpaa
set_option maxRecDepth 20000
section
set_option linter.unusedVariables false
open Go.ChangeShapes Go.WideShapes Go.ChangeAt Go.RowKit

def flat2 (L : List Pr) : List Value := L.flatMap fun p => [.int .i64 p.1, .int .i64 p.2]
theorem flat2_len (L : List Pr) : (flat2 L).length = L.length * 2 := by
  induction L with
  | nil => rfl
  | cons x r ih => simp only [flat2, List.flatMap_cons, List.length_append, List.length_cons, List.length_nil] at ih ⊢; omega
theorem flat2_at (L : List Pr) : ∀ k, k < L.length → (flat2 L)[k * 2]? = some (.int .i64 (L.getD k pz).1) ∧ (flat2 L)[k * 2 + 1]? = some (.int .i64 (L.getD k pz).2) := by
  induction L with
  | nil => intro k hk; simp at hk
  | cons x r ih =>
    intro k hk
    cases k with
    | zero => exact ⟨rfl, rfl⟩
    | succ k =>
      have := ih k (by simpa using hk)
      have e : ∀ i, (flat2 (x :: r))[i + 2]? = (flat2 r)[i]? := fun i => rfl
      rw [show (k + 1) * 2 = k * 2 + 2 by omega, show k * 2 + 2 + 1 = k * 2 + 1 + 2 by omega, e, e]
      exact this
theorem flat2_set (L : List Pr) : ∀ (k : Nat) (p : Pr), flat2 (L.set k p) = ((flat2 L).set (k * 2) (.int .i64 p.1)).set (k * 2 + 1) (.int .i64 p.2) := by
  induction L with
  | nil => intro k p; simp [flat2]
  | cons x r ih =>
    intro k p
    cases k with
    | zero => rfl
    | succ k =>
      have := ih k p
      rw [List.set_cons_succ]
      show .int .i64 x.1 :: .int .i64 x.2 :: flat2 (r.set k p) = _
      rw [this, show (k + 1) * 2 = k * 2 + 1 + 1 by omega]
      rfl
theorem flat2_app (L M : List Pr) : flat2 (L ++ M) = flat2 L ++ flat2 M := List.flatMap_append
/-- A row that the call owns, opened. -/
theorem own_form {W : World} {n₀ : Nat} {e : TypeId} {v : Value} {L : List Pr} (h : W.ownsRow n₀ e 2 v L.length (flat2 L)) :
    ∃ ao cap, v = .slice ao L.length cap ∧ (0 < L.length → ∃ g, ao = some ⟨g, 0, none⟩ ∧ n₀ ≤ g ∧ g < W.heap.size ∧ (∀ o, W.frozen? ⟨g, o, none⟩ = false) ∧ ∀ k, k < L.length → W.cell? ⟨g, k * 2, none⟩ = some (.int .i64 (L.getD k pz).1) ∧ W.cell? ⟨g, k * 2 + 1, none⟩ = some (.int .i64 (L.getD k pz).2)) := by
  rcases h.2 with ⟨rfl, h0⟩ | ⟨g, cap, cur, rfl, hb, hg, h1, h2, h3, h4⟩
  · refine ⟨none, 0, by rw [h0], fun hp => by omega⟩
  · refine ⟨some ⟨g, 0, none⟩, cap, rfl, fun _ => ⟨g, rfl, hb, lt_of_heap hg, fun o => frozen_of hg o, fun k hk => ?_⟩⟩
    have hc : ∀ i, i < L.length * 2 → cur[i]? = (flat2 L)[i]? := fun i hi => by
      rw [← h4, List.getElem?_take, if_pos hi]
      simp
    have := flat2_at L k hk
    exact ⟨(cell_of hg _).trans ((hc _ (by omega)).trans this.1), (cell_of hg _).trans ((hc _ (by omega)).trans this.2)⟩
theorem own_set {W : World} {n₀ : Nat} {e : TypeId} {g n cap k : Nat} {L : List Pr} {p : Pr} (h : W.ownsRow n₀ e 2 (.slice (some ⟨g, 0, none⟩) n cap) n (flat2 L)) (hk : k < n) :
    ((W.setCell ⟨g, k * 2, none⟩ (.int .i64 p.1)).setCell ⟨g, k * 2 + 1, none⟩ (.int .i64 p.2)).ownsRow n₀ e 2 (.slice (some ⟨g, 0, none⟩) n cap) n (flat2 (L.set k p)) := by
  obtain ⟨h0, h⟩ := h
  refine ⟨by rw [flat2_len, List.length_set, ← flat2_len]; exact h0, ?_⟩
  rcases h with ⟨hx, _⟩ | ⟨g', cap', cur, hx, hb, hg, h1, h2, h3, h4⟩
  · cases hx
  · cases hx
    refine .inr ⟨g, cap, _, rfl, hb, heap_set_same (heap_set_same hg), h1, h2, by simp [h3], ?_⟩
    rw [flat2_set, ← h4]
    simp only [Array.toList_setIfInBounds, List.take_set]
theorem len_any (v : Value) (ao : Option Addr) (n cap : Nat) (hv : v = .slice ao n cap) (W : World) :
    Calls Try.prog 78 #[v] W fun e W' => e = .returned (.int .i64 n) ∧ W' = W := by
  subst hv
  go_enter Try.func78, Try.ntmps78
  go_wp2
  go_ret
  exact ⟨rfl, rfl⟩

set_option maxHeartbeats 1000000 in
theorem less_any (n₀ : Nat) (e : TypeId) (v : Value) (R : List Pr) (i j : Nat) (hi : i < R.length) (hj : j < R.length) (hl : R.length < 1000000) (W : World) (h : W.ownsRow n₀ e 2 v R.length (flat2 R)) :
    Calls Try.prog 79 #[v, .int .i64 i, .int .i64 j] W fun e W' => e = .returned (.bool (lt2 (R.getD i pz) (R.getD j pz))) ∧ Bel W W' := by
  obtain ⟨ao, cap, rfl, hc⟩ := own_form h
  obtain ⟨g, rfl, hb, hg, hf, hc⟩ := hc (by omega)
  obtain ⟨a0, a1⟩ := hc i hi
  obtain ⟨b0, b1⟩ := hc j hj
  clear hc h hf hb
  unfold lt2
  generalize R.getD i pz = c at *
  generalize R.getD j pz = d at *
  obtain ⟨ca, ch⟩ := c
  obtain ⟨da, dh⟩ := d
  simp only at a0 a1 b0 b1
  have hil : (i : Int) < R.length := by omega
  have hjl : (j : Int) < R.length := by omega
  generalize R.length = n at *
  go_enter Try.func79, Try.ntmps79
  clear hc
  by_cases hh : ch = dh
  · subst hh
    go_wp2
    go_region
    go_wp2
    go_region
    go_wp2
    go_ret
    refine ⟨?_, (Bel.refl W).drew.drew⟩
    simp
  · go_wp2
    go_region
    go_wp2
    go_region
    go_wp2
    go_ret
    refine ⟨?_, (Bel.refl W).drew.drew⟩
    simp [hh]

set_option maxHeartbeats 1000000 in
theorem swap_any (n₀ : Nat) (e : TypeId) (v : Value) (R : List Pr) (i j : Nat) (hi : i < R.length) (hj : j < R.length) (hl : R.length < 1000000) (W : World) (h : W.ownsRow n₀ e 2 v R.length (flat2 R)) :
    Calls Try.prog 80 #[v, .int .i64 i, .int .i64 j] W fun e' W' => e' = .returned (.tuple #[]) ∧ W'.ownsRow n₀ e 2 v R.length (flat2 (swp R i j)) ∧ Kept (fun k _ => v.ownBlock = some k) W W' := by
  obtain ⟨ao, cap, rfl, hc⟩ := own_form h
  obtain ⟨g, rfl, hb, hg, hf, hc⟩ := hc (by omega)
  obtain ⟨a0, a1⟩ := hc i hi
  obtain ⟨b0, b1⟩ := hc j hj
  have HS : Hid (∀ c d, R.getD i pz = c → R.getD j pz = d → ((((W.setCell ⟨g, i * 2, none⟩ (.int .i64 d.1)).setCell ⟨g, i * 2 + 1, none⟩ (.int .i64 d.2)).setCell ⟨g, j * 2, none⟩ (.int .i64 c.1)).setCell ⟨g, j * 2 + 1, none⟩ (.int .i64 c.2)).ownsRow n₀ e 2 (.slice (some ⟨g, 0, none⟩) R.length cap) R.length (flat2 (swp R i j))) := by
    rintro _ _ rfl rfl
    exact own_set (own_set h hi) hj
  have fi0 := hf (i * 2)
  have fi1 := hf (i * 2 + 1)
  have fj0 := hf (j * 2)
  have fj1 := hf (j * 2 + 1)
  clear hc h hf hb
  generalize hC : R.getD i pz = c at *
  generalize hD : R.getD j pz = d at *
  have HT := hidm (HS.out c d rfl rfl)
  clear HS hC hD
  obtain ⟨ca, ch⟩ := c
  obtain ⟨da, dh⟩ := d
  simp only at a0 a1 b0 b1 HT
  have hil : (i : Int) < R.length := by omega
  have hjl : (j : Int) < R.length := by omega
  by_cases hij : i = j
  · subst hij
    obtain ⟨rfl, rfl⟩ : ca = da ∧ ch = dh := by rw [a0] at b0; rw [a1] at b1; simp at b0 b1; exact ⟨b0, b1⟩
    clear b0 b1
    go_enter Try.func80, Try.ntmps80
    go_wp2
    go_region
    go_wp2
    go_end0
    exact ⟨rfl, HT.out, ((((Kept.setCell _ _ _ _ (fun _ _ => rfl)).trans (Kept.setCell _ _ _ _ (fun _ _ => rfl))).trans (Kept.setCell _ _ _ _ (fun _ _ => rfl))).trans (Kept.setCell _ _ _ _ (fun _ _ => rfl))).trans (Kept.drew _ _)⟩
  · have n0 : ¬ j * 2 = i * 2 := by omega
    have n1 : ¬ j * 2 = i * 2 + 1 := by omega
    have n2 : ¬ j * 2 + 1 = i * 2 := by omega
    have n3 : ¬ j * 2 + 1 = i * 2 + 1 := by omega
    have n4 : ¬ i = j := by omega
    have n5 : ¬ j = i := by omega
    go_enter Try.func80, Try.ntmps80
    go_wp2
    go_region
    go_wp2
    go_end0
    exact ⟨rfl, HT.out, ((((Kept.setCell _ _ _ _ (fun _ _ => rfl)).trans (Kept.setCell _ _ _ _ (fun _ _ => rfl))).trans (Kept.setCell _ _ _ _ (fun _ _ => rfl))).trans (Kept.setCell _ _ _ _ (fun _ _ => rfl))).trans (Kept.drew _ _)⟩
end
section
set_option linter.unusedVariables false
open Go.ChangeShapes Go.WideShapes Go.ChangeAt Go.RowKit

def Cnd (c : Pr) : Value := .agg #[.int .i64 c.1, .int .i64 c.2]
/-- What may stand, in memory: the list's box, at cell 3 of it a row of candidates. -/
structure RdyM (n₀ : Nat) (W : World) (b : Nat) (c0 c1 c2 rv c4 c5 c6 : Value) (R : List Pr) : Prop where
  box : W.heap[b]? = some (.cells #[c0, c1, c2, rv, c4, c5, c6] 50)
  row : W.ownsRow n₀ 61 2 rv R.length (flat2 R)
  low : n₀ ≤ b
/-- What its calls may turn. -/
def RS (n₀ b k : Nat) (o : Obj) : Prop := k = b ∨ (n₀ ≤ k ∧ tag o = some 61)
theorem candInfo : (Try.prog.info? 61).map (fun i => (i.zero, i.size, i.bytes)) = some (some (.agg #[.int .i64 0, .int .i64 0]), 2, 16) := by kernel_rfl
theorem own2_kept {S : Nat → Obj → Prop} {n₀ : Nat} {e : TypeId} {W W' : World} {v : Value} {n : Nat} {xs : List Value} (h : W.ownsRow n₀ e 2 v n xs) (hk : Kept S W W') (hs : ∀ g c f, v.ownBlock = some g → ¬ S g (.cells c e f)) : W'.ownsRow n₀ e 2 v n xs := by
  refine ⟨h.1, ?_⟩
  rcases h.2 with hn | ⟨g, cap, cur, rfl, hb, hgg, rest⟩
  · exact .inl hn
  · exact .inr ⟨g, cap, cur, rfl, hb, hk.block g _ hgg (hs g _ _ rfl), rest⟩
theorem own2_block {n₀ : Nat} {e : TypeId} {W : World} {v : Value} {n : Nat} {xs : List Value} (h : W.ownsRow n₀ e 2 v n xs) : ∀ g, v.ownBlock = some g → n₀ ≤ g ∧ ∃ cur, W.heap[g]? = some (.cells cur e) := by
  intro g hg
  rcases h.2 with ⟨rfl, _⟩ | ⟨g', cap, cur, rfl, hb, hgg, rest⟩
  · cases hg
  · obtain rfl : g' = g := by simpa [Value.ownBlock] using hg
    exact ⟨hb, cur, hgg⟩
theorem RdyM.ne {n₀ : Nat} {W : World} {b : Nat} {c0 c1 c2 rv c4 c5 c6 : Value} {R : List Pr} (h : RdyM n₀ W b c0 c1 c2 rv c4 c5 c6 R) : rv.ownBlock ≠ some b := by
  intro e
  obtain ⟨_, cur, hc⟩ := own2_block h.row b e
  rw [h.box] at hc
  injection hc with hc
  injection hc with _ hc _
  exact absurd hc (by decide)
theorem RdyM.swapped {n₀ : Nat} {W W' : World} {b : Nat} {c0 c1 c2 rv c4 c5 c6 : Value} {R R' : List Pr} (h : RdyM n₀ W b c0 c1 c2 rv c4 c5 c6 R) (hr : W'.ownsRow n₀ 61 2 rv R.length (flat2 R')) (hl : R'.length = R.length) (hk : Kept (fun k _ => rv.ownBlock = some k) W W') : RdyM n₀ W' b c0 c1 c2 rv c4 c5 c6 R' ∧ Kept (RS n₀ b) W W' := by
  refine ⟨⟨hk.block b _ h.box h.ne, by rw [hl]; exact hr, h.low⟩, hk.mono fun k o ho e => ?_⟩
  obtain ⟨h1, cur, hc⟩ := own2_block h.row k e
  rw [ho] at hc
  cases hc
  exact .inr ⟨h1, rfl⟩
theorem RdyM.bel {n₀ : Nat} {W W' : World} {b : Nat} {c0 c1 c2 rv c4 c5 c6 : Value} {R : List Pr} (h : RdyM n₀ W b c0 c1 c2 rv c4 c5 c6 R) (hb : Bel W W') : RdyM n₀ W' b c0 c1 c2 rv c4 c5 c6 R :=
  ⟨bel_heap hb h.box, own2_kept h.row (Kept.of_bel (S := fun _ _ => False) hb) (fun _ _ _ _ e => e), h.low⟩
theorem cell3 {W : World} {b : Nat} {c0 c1 c2 rv c4 c5 c6 : Value} (h : W.heap[b]? = some (.cells #[c0, c1, c2, rv, c4, c5, c6] 50)) (u : Value) : (W.setCell ⟨b, 3, none⟩ u).heap[b]? = some (.cells #[c0, c1, c2, u, c4, c5, c6] 50) := heap_set_same (o := 3) (u := u) h

theorem cand_assert (x y : Int) (w : World) : Sem.run Try.prog (Instr.typeAssert (.iface 61 (.agg #[.int .i64 x, .int .i64 y])) 20 61 false) w = .ok (.agg #[.int .i64 x, .int .i64 y]) w := by kernel_rfl
set_option maxHeartbeats 2000000 in
theorem rpush_any (n₀ b : Nat) (c0 c1 c2 rv c4 c5 c6 : Value) (R : List Pr) (c : Pr) (hl : R.length < 100000) (W : World) (h : RdyM n₀ W b c0 c1 c2 rv c4 c5 c6 R) :
    Calls Try.prog 82 #[.pointer (some ⟨b, 3, none⟩), .iface 61 (Cnd c)] W fun e W' => e = .returned (.tuple #[]) ∧ ∃ rv', RdyM n₀ W' b c0 c1 c2 rv' c4 c5 c6 (R ++ [c]) ∧ Kept (RS n₀ b) W W' := by
  obtain ⟨i0, hi, hz0, hz1, hz2⟩ := info_parts candInfo
  have hlt := lt_of_heap h.box
  have hlow := h.low
  have hne := h.ne
  have cb : W.cell? ⟨b, 3, none⟩ = some rv := cell_of h.box 3
  have fb := frozen_of h.box 3
  obtain ⟨ca, ch⟩ := c
  unfold Cnd
  have hn0 : n₀ ≤ W.heap.size := by omega
  have HR := hidm h.row
  have HB := hidm h.box
  have hta := cand_assert ca ch
  go_enter Try.func82, Try.ntmps82
  go_wp2_with fail
  go_region_law
    ((refine step_append_lies _ (by rfl) _ _ _ (by rfl) n₀ 61 i0 _ 2 16 Try.underlying45 hi hz0 hz1 hz2 rfl (by omega) _ _ _ (by rfl) ((HR.out.alloc _).drew)
        ⟨W.heap.size, 0, none⟩ 1 1 [.int .i64 ca, .int .i64 ch] (by rfl) (by rfl) (World.news_of_block (cs := #[.int .i64 ca, .int .i64 ch]) (t := 61) (fr := (0, 0)) (heap_alloc_new W _)) (by simp [Value.oneCell'])
        (by omega) (by unfold maxLen; omega) (by omega) (by simp; omega) (W.heap.size + 1) (by simp) ?_; intro gg cap1 w1 hown1 hgrow hat hlt1; have hb1 := (hgrow.block b (by simp; omega) hne.symm).trans (heap_old HB.out); have f2 := frozen_of hb1 3; have c2 := cell_of hb1 3))
  all_goals
    go_wp2
    go_end0
    have e1 : flat2 (R ++ [(ca, ch)]) = flat2 R ++ [.int .i64 ca, .int .i64 ch] := flat2_app R _
    have e2 : (R ++ [(ca, ch)]).length = R.length + 1 := by simp
    have gne : gg ≠ b := by
      intro e
      rcases hat with q | q
      · exact hne (by rw [q, e])
      · omega
    have k1 : Kept (RS n₀ b) W w1 := ((Kept.alloc _ W _).trans (Kept.drew _ _)).trans (Kept.grown hgrow fun k o e ho => by
      obtain ⟨h1, cur, hc⟩ := own2_block h.row k e
      have hc2 := heap_old (o := Obj.cells #[.int .i64 ca, .int .i64 ch] 61) hc
      have ho2 : (W.alloc (Obj.cells #[.int .i64 ca, .int .i64 ch] 61)).heap[k]? = some o := ho
      rw [hc2] at ho2
      cases ho2
      exact .inr ⟨h1, rfl⟩)
    refine ⟨rfl, _, ⟨cell3 hb1 _, ?_, hlow⟩, k1.trans (Kept.setCell _ _ _ _ (fun _ _ => .inl rfl))⟩
    rw [e1, e2]
    exact own2_kept hown1 (Kept.setCell (fun k _ => k = b) _ _ _ (fun _ _ => rfl)) (fun g c f q q2 => gne (by
      have : gg = g := by simpa [Value.ownBlock] using q
      omega))

set_option maxHeartbeats 2000000 in
theorem rpop_any (n₀ b n : Nat) (c0 c1 c2 rv c4 c5 c6 : Value) (R : List Pr) (hn : R.length = n + 1) (hl : R.length < 100000) (W : World) (h : RdyM n₀ W b c0 c1 c2 rv c4 c5 c6 R) :
    Calls Try.prog 81 #[.pointer (some ⟨b, 3, none⟩)] W fun e W' => e = .returned (.iface 61 (Cnd (R.getD n pz))) ∧ ∃ rv', RdyM n₀ W' b c0 c1 c2 rv' c4 c5 c6 (R.take n) ∧ Kept (RS n₀ b) W W' := by
  have hlt := lt_of_heap h.box
  have cb : W.cell? ⟨b, 3, none⟩ = some rv := cell_of h.box 3
  have fb := frozen_of h.box 3
  obtain ⟨ao, cap, rfl, hc⟩ := own_form h.row
  obtain ⟨g, rfl, hb, hg, hf, hc⟩ := hc (by omega)
  obtain ⟨a0, a1⟩ := hc n (by omega)
  unfold Cnd
  have HH := hidm h
  have hcap : n ≤ cap := by
    rcases h.row.2 with ⟨q, _⟩ | ⟨_, _, _, q, _, _, q2, _⟩
    · cases q
    · cases q; omega
  have hgb : g ≠ b := fun e => h.ne (by rw [e]; rfl)
  clear hf hc h
  generalize hC : R.getD n pz = c at *
  obtain ⟨ca, ch⟩ := c
  simp only at a0 a1
  rw [hn] at cb
  have hn1 : (n : Int) < (n : Int) + 1 := by omega
  have hcapI : (n : Int) ≤ cap := by omega
  go_enter Try.func81, Try.ntmps81
  go_wp2
  go_ret
  refine ⟨rfl, _, ⟨heap_old (cell3 HH.out.box _), ?_, HH.out.low⟩, (Kept.setCell _ _ _ _ (fun _ _ => .inl rfl)).trans (Kept.alloc _ _ _)⟩
  have e1 : (R.take n).length = n := by simp; omega
  obtain ⟨h0, h1⟩ := HH.out.row
  rcases h1 with ⟨q, _⟩ | ⟨g', cap', cur, q, r1, r2, r3, r4, r5, r6⟩
  · cases q
  · cases q
    rw [e1]
    refine ⟨by rw [flat2_len, e1], .inr ⟨g, cap, cur, rfl, r1, heap_old ((heap_set_other hgb).trans r2), hcap, r4, r5, ?_⟩⟩
    have e2 : flat2 R = flat2 (R.take n) ++ flat2 (R.drop n) := by rw [← flat2_app, List.take_append_drop]
    have e3 : n * 2 = (flat2 (R.take n)).length := by rw [flat2_len, e1]
    have e4 : cur.toList.take (n * 2) = (cur.toList.take (R.length * 2)).take (n * 2) := by rw [List.take_take]; congr 1; omega
    rw [e4, r6, e2, e3, List.take_left]
end
end Go.Proofs.Ytpmofaajkhllpaa
