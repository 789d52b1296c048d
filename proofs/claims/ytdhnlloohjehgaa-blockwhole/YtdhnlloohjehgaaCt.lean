/-
  The contract of package block's cutsOf.
-/
import Derived.Test.YtdhnlloohjehgaaHm
import Derived.Test.YtdhnlloohjehgaaEff2
import Derived.Test.YtdhnlloohjehgaaSl6
namespace Go.Proofs.Ytdhnlloohjehgaa
set_option maxRecDepth 20000
set_option linter.unusedVariables false
open Go.ChangeShapes Go.WideShapes Go.ChangeAt Go.RowKit

theorem map_block {n₀ : Nat} {W : World} {L : List Int} {m : Nat} (h : MapOf n₀ W L (some m)) : n₀ ≤ m ∧ ∃ es c, W.heap[m]? = some (.map es c) := by
  obtain ⟨h1, es, c, hb, _⟩ := h
  exact ⟨h1, es, c, hb⟩
/-- One Add, of whatever number: an instruction's box is as it was. -/
theorem add_any (n₀ b : Nat) (v : Value) (mp : Option Nat) (L : List Int) (x : Int) (wx : (Lit.int .i64 x).wf = true) (hlen : L.length < 1000000) (W : World) (hn : n₀ ≤ W.heap.size) (h : IsS n₀ W b v mp L) :
    Calls Try.prog 33 #[.pointer (some ⟨b, 0, none⟩), .int .i64 x] W fun e W' => ∃ r v' mp', e = .returned (.bool r) ∧ IsS n₀ W' b v' mp' (addL L x) ∧
      (∀ (p : Nat) (c : Array Value), W.heap[p]? = some (Obj.cells c 24 (0, 0)) → W'.heap[p]? = some (Obj.cells c 24 (0, 0))) ∧ Below n₀ W W' := by
  cases hin : inB L x with
  | true =>
    refine (add_old n₀ b v mp L x wx W h hin).mono ?_
    rintro e W' ⟨rfl, hB⟩
    refine ⟨_, v, mp, rfl, ?_, fun p c hp => (hB.out.block p (lt_of_heap hp)).trans hp, Below.mono hB.out hn⟩
    rw [show addL L x = L from if_pos hin]
    exact h.bel hB
  | false =>
    refine (add_new n₀ b v mp L x wx hlen W hn h hin).mono ?_
    rintro e W' ⟨rfl, v', m', hI, hK, _, _⟩
    refine ⟨_, v', some m', rfl, ?_, fun p c hp => hK.block p _ hp ?_, hK.below hn ?_⟩
    · rw [show addL L x = L ++ [x] from if_neg (by rw [hin]; decide)]
      exact hI
    · rintro (e | e | e)
      · subst e
        rw [h.box] at hp
        injection hp with hp
        injection hp with _ hp _
        exact absurd hp (by decide)
      · rcases h.row.2 with ⟨e1, _⟩ | ⟨g, cap, cur, e1, _, hg, _⟩
        · rw [e1] at e; cases e
        · rw [e1] at e
          injection e with e
          have e : g = p := e
          subst e
          rw [hg] at hp
          injection hp with hp
          injection hp with _ hp _
          exact absurd hp (by decide)
      · subst e
        obtain ⟨_, es, c', hb⟩ := map_block h.map
        rw [hb] at hp
        cases hp
    · rintro k o ho (e | e | e)
      · rw [e]; exact h.low
      · exact (h.row.lt k e).1
      · subst e
        exact (map_block h.map).1
/-- A box of an instruction: its cells. -/
theorem ins_cells {W : World} {p : Nat} {x0 x1 x2 x3 x4 : Value} {t : TypeId} (h : W.heap[p]? = some (.cells #[x0, x1, x2, x3, x4] t (0, 0))) : W.cell? ⟨p, 0, none⟩ = some x0 ∧ W.cell? ⟨p, 1, none⟩ = some x1 ∧ W.cell? ⟨p, 2, none⟩ = some x2 ∧ W.cell? ⟨p, 3, none⟩ = some x3 ∧ W.cell? ⟨p, 4, none⟩ = some x4 :=
  ⟨cell_of h 0, cell_of h 1, cell_of h 2, cell_of h 3, cell_of h 4⟩
theorem wf_of {x : Int} (h : -9223372036854775808 ≤ x ∧ x ≤ 9223372036854775807) : (Lit.int .i64 x).wf = true := by
  simp only [Lit.wf, Bool.and_eq_true, decide_eq_true_eq]; exact h

theorem cuts_no (X : List Ins) (v : Value) (w : World) (hl : X.length ≤ 4096) (hv : Code w v X) (hf : fitB X = false) :
    Calls Try.prog 27 #[v] w fun e w' => e = .returned (.slice none 0 0) ∧ Bel w w' := by
  go_enter Try.func27, Try.ntmps27
  go_wp2_with (go_at_call 13; refine (fit_any X v _ hl hv).mono ?_; rw [hf]; rintro e w1 ⟨rfl, hg1⟩)
  go_ret
  exact ⟨rfl, hg1⟩
set_option maxHeartbeats 2000000 in
theorem cuts_yes (X : List Ins) (v : Value) (w : World) (hl : X.length ≤ 4096) (hv : Code w v X) (hf : fitB X = true) :
    Calls Try.prog 27 #[v] w fun e w' => ∃ u, e = .returned u ∧ w'.ownsRow w.heap.size 3 1 u (cutL X).length ((cutL X).map (Value.int .i64)) ∧ Bel w w' := by
  have hv0 := hv
  obtain ⟨ao, cap, rfl, hc⟩ := hv
  go_enter Try.func27, Try.ntmps27
  go_wp2_with (first
    | (go_at_call 13; refine (fit_any X _ _ hl hv0).mono ?_; rw [hf]; rintro e w1 ⟨rfl, hg1⟩; have z1 := hg1.size)
    | (go_at_call 33; refine Hid.out ?_))
  have s1 := IsS.new w.heap.size w1 z1
  have B0 := hg1.alloc (Obj.cells #[.slice none 0 0, .map none] 55)
  generalize w1.alloc (Obj.cells #[.slice none 0 0, .map none] 55) = W1 at s1 B0 ⊢
  have S1 := hidm s1
  clear s1 hg1
  have zb := B0.size
  refine hidm ?_
  refine (add_any w.heap.size w1.heap.size _ _ [] 0 (wf_of (by omega)) (by decide) _ zb S1.out).mono ?_
  rintro e W2 ⟨r1, v1, m1, rfl, s2, k1, B1⟩
  have B2 := hidm (Below.trans B0 B1)
  have z2 := Below.size B2.out
  have n2 : addL [] 0 = [0] := rfl
  rw [n2] at s2
  have S2 := hidm s2
  clear s2 B1 k1 n2 S1 B0 zb
  go_wp2_with (first
    | (go_at_call 33; refine (add_any w.heap.size w1.heap.size v1 m1 [0] X.length (wf_of (by omega)) (by decide) _ z2 S2.out).mono ?_; rintro e W3 ⟨r2, v2, m2, rfl, s3, k2, B3'⟩; refine Hid.out ?_))
  have B3 : Bel w W3 := Below.trans B2.out B3'
  clear B3' k2 S2 B2 z2
  refine hidm ?_
  go_wp2_with fail
  go_loopw [17] (fun i wr => ∃ (k : Nat) (v : Value) (mp : Option Nat) (L : List Int), k ≤ X.length ∧ i = .int .i64 k ∧ Hid (IsS w.heap.size wr w1.heap.size v mp L) ∧ L.Nodup ∧ L.length ≤ 2 * k + 2 ∧ Hid (∀ x, x ∈ L ↔ CutM X k x) ∧ L ≠ [] ∧ Bel w wr) (fun i _ => X.length - (intOf i).toNat)
  case atStart =>
    refine ⟨0, v2, m2, _, Nat.zero_le _, rfl, s3, addL_nodup (by simp) _, ?_, ?_, ?_, B3⟩
    · have := (addL_len [0] X.length).1
      simpa using this
    · intro x
      rw [mem_addL, List.mem_singleton]
      unfold CutM
      constructor
      · rintro (h | h)
        · exact .inl h
        · exact .inr (.inl h)
      · rintro (h | h | ⟨j, hj, _⟩ | ⟨j, hj, _⟩)
        · exact .inl h
        · exact .inr h
        · omega
        · omega
    · have := (addL_len [0] X.length).2
      intro e
      rw [e] at this
      simp at this
  case round =>
    obtain ⟨k, v, mp, L, hk, rfl, hS, hnd, hlen, hm, hne, hb⟩ := hrel
    rename World => wr
    have hz := hb.size
    by_cases hlt : k < X.length
    · obtain ⟨bb, oo, rfl, hbw, hca⟩ := hc (by omega)
      obtain ⟨a0, a1, a2, a3, a4⟩ := hca k hlt
      rw [← (bcell hb).1 _ _ hbw] at a0 a1 a2 a3 a4
      have HC : Hid (∀ x, CutM X (k + 1) x ↔ CutM X k x ∨ ((X.getD k Ins.zero).goes = true ∧ x = (k : Int) + 1) ∨ ((X.getD k Ins.zero).names = true ∧ x = (X.getD k Ins.zero).tgt k)) := fun x => cutM_step X k x
      have HT : Hid ((X.getD k Ins.zero).names = true → 0 ≤ (X.getD k Ins.zero).tgt k ∧ (X.getD k Ins.zero).tgt k ≤ X.length) := fun h => fit_tgt hf hlt h
      generalize X.getD k Ins.zero = x at a0 a1 a2 a3 a4 HC HT
      clear hc hca hv0 hf
      go_wp2_with (first
        | (go_at_call 34; refine (goes_any _ _ _ _ _ _).mono ?_; rintro e w4 ⟨rfl, g4⟩; refine Hid.out ?_))
      have b4 : w4.heap[wr.heap.size]? = some (.cells #[.int .i64 x.o, .int .i64 x.a, .int .i64 x.b, .int .i64 x.c, .int .i64 x.i] 24 (0, 0)) := (g4.out.block _ (by simp)).trans (heap_new _ _)
      have S4 := hidm ((hS.out.bel ((Bel.refl wr).alloc _)).bel g4)
      have B4 := btrans (hb.alloc _) g4
      have z4 := B4.size
      clear a0 a1 a2 a3 a4 hS hb hz g4
      generalize wr.heap.size = q at b4 ⊢
      clear wr
      have HN : x.names = true → x.goes = true := by
        intro h
        unfold Ins.names namesB at h
        unfold Ins.goes goesB
        rw [Bool.and_eq_true, decide_eq_true_eq] at h ⊢
        exact ⟨h.1, by omega⟩
      have HN' := hidm HN
      clear HN
      cases hg : goesB x.o x.a x.b x.c x.i with
      | false =>
        have hn : namesB x.o x.a x.b x.c x.i = false := by
          cases h : namesB x.o x.a x.b x.c x.i with
          | false => rfl
          | true => have := HN'.out h; rw [show x.goes = false from hg] at this; cases this
        obtain ⟨c0, c1, c2, c3, c4⟩ := ins_cells b4
        have HM := hidm (show ∀ y, y ∈ L ↔ CutM X (k + 1) y from fun y => by
          rw [hm.out y, HC.out y, show x.goes = false from hg, show x.names = false from hn]
          simp)
        clear b4 HC HT HN' hm
        refine hidm ?_
        go_wp2_with (first
          | (go_at_call 11; refine (target_any _ _ _ _ _ _ (by omega) _).mono ?_; rw [hn]; rintro e w5 ⟨rfl, g5⟩))
        go_roundw
        case rel => exact ⟨k + 1, v, mp, L, by omega, by go_num, hidm (S4.out.bel g5), hnd, by omega, HM, hne, btrans B4 g5⟩
        case measure => simp [intOf]; omega
      | true =>
        refine hidm ?_
        go_wp2_with (first
          | (go_at_call 33; refine (add_any w.heap.size w1.heap.size v mp L ((k : Int) + 1) (wf_of (by omega)) (by omega) _ z4 S4.out).mono ?_; rintro e w5 ⟨r5, v5, m5, rfl, s5, k5, B5'⟩; refine Hid.out ?_))
        have b5 := k5 _ _ b4
        have B5 : Bel w w5 := Below.trans B4 B5'
        have hl5 := addL_len L ((k : Int) + 1)
        have hm5 := hidm (fun y => (mem_addL L ((k : Int) + 1) y).trans (or_congr (hm.out y) Iff.rfl))
        have hn5 := addL_nodup hnd ((k : Int) + 1)
        have S5 := hidm s5
        have z5 := B5.size
        have hne5 : addL L ((k : Int) + 1) ≠ [] := by intro e; rw [e] at hl5; simp at hl5; exact hne hl5
        obtain ⟨c0, c1, c2, c3, c4⟩ := ins_cells b5
        clear B4 B5' k5 b4 S4 z4 b5 hm hnd s5
        generalize addL L ((k : Int) + 1) = L5 at hl5 hm5 hn5 S5 hne5
        cases hn : namesB x.o x.a x.b x.c x.i with
        | false =>
          have HM := hidm (show ∀ y, y ∈ L5 ↔ CutM X (k + 1) y from fun y => by
            rw [hm5.out y, HC.out y, show x.goes = true from hg, show x.names = false from hn]
            simp)
          clear HC HT HN' hm5
          refine hidm ?_
          go_wp2_with (first
            | (go_at_call 11; refine (target_any _ _ _ _ _ _ (by omega) _).mono ?_; rw [hn]; rintro e w6 ⟨rfl, g6⟩))
          go_roundw
          case rel => exact ⟨k + 1, v5, m5, L5, by omega, by go_num, hidm (S5.out.bel g6), hn5, by omega, HM, hne5, btrans B5 g6⟩
          case measure => simp [intOf]; omega
        | true =>
          have ht := HT.out hn
          have HM := hidm (show ∀ y, y ∈ L5 ∨ y = x.tgt k ↔ CutM X (k + 1) y from fun y => by
            rw [hm5.out y, HC.out y, show x.goes = true from hg, show x.names = true from hn]
            simp [or_assoc])
          clear HC HT HN' hm5
          refine hidm ?_
          have e6 : Hid (tgtI x.o x.a x.b x.c x.i k = x.tgt k) := rfl
          generalize x.tgt k = t at ht HM e6
          go_wp2_with (first
            | (go_at_call 11; refine (target_any _ _ _ _ _ _ (by omega) _).mono ?_; rw [hn, e6.out]; rintro e w6 ⟨rfl, g6⟩; have S6 := hidm (S5.out.bel g6); have z6 := Nat.le_trans z5 g6.size)
            | (go_at_call 33; refine (add_any w.heap.size w1.heap.size v5 m5 L5 t (wf_of (by omega)) (by omega) _ z6 S6.out).mono ?_; rintro e w7 ⟨r7, v7, m7, rfl, s7, k7, B7'⟩))
          have hl7 := addL_len L5 t
          go_roundw
          case rel => exact ⟨k + 1, v7, m7, _, by omega, by go_num, hidm s7, addL_nodup hn5 t, by omega, fun y => (mem_addL L5 t y).trans (HM.out y), by intro e; rw [e] at hl7; simp at hl7; exact hne5 hl7, Below.trans (btrans B5 g6) B7'⟩
          case measure => simp [intOf]; omega
    · have hkl : X.length = k := by omega
      have HC := hidm (cut_srt hf hnd (by rw [hkl]; exact hm.out))
      have hlen' : L.length < 1000000 := by omega
      clear hkl hc hm
      obtain ⟨ar, cr, hvr⟩ := slice_of hS.out.row
      subst hvr
      have hI := hidm (ints_of_row hS.out.row)
      go_wp2_with (first
        | (go_at_call 36; refine (sall_any w.heap.size w1.heap.size _ mp L _ hS.out).mono ?_; rintro e w8 ⟨rfl, rfl⟩; refine Hid.out ?_))
      have bx := Boxed.new wr 30 (.slice ar L.length cr)
      have B8 := hb.alloc (Obj.cells #[.slice ar L.length cr] 30)
      have hL8 : 0 < L.length → ∃ g o, ar = some ⟨g, o, none⟩ ∧ g < (wr.alloc (Obj.cells #[.slice ar L.length cr] 30)).heap.size ∧ ∀ j, j < L.length → (wr.alloc (Obj.cells #[.slice ar L.length cr] 30)).cell? ⟨g, o + j, none⟩ = some (.int .i64 (L[j]?.getD 0)) := by
        obtain ⟨ao', c', e, hcell⟩ := hI.out.bel ((Bel.refl wr).alloc (Obj.cells #[.slice ar L.length cr] 30))
        injection e with e1 _ _
        subst e1
        exact hcell
      have HL := hidm hL8
      clear hL8 hI hS
      generalize (wr.alloc (Obj.cells #[.slice ar L.length cr] 30)) = w8 at bx B8 HL ⊢
      refine hidm ?_
      go_wp2_with (first
        | (go_at_call 35; refine (sorted_any wr.heap.size ar cr L _ hlen' hne bx HL.out).mono ?_; rintro e w9 ⟨u, rfl, hrow, B9⟩))
      go_ret
      refine ⟨u, rfl, ?_, btrans B8 B9⟩
      rw [← HC.out]
      exact row_base hrow B8.size
end Go.Proofs.Ytdhnlloohjehgaa
