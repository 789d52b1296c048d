/-
  A run of the machine of five stages: the whole.
-/
import Derived.Test.YthkhlkcdhalkfaaPm
namespace Go.Proofs.Ythkhlkcdhalkfaa
set_option maxRecDepth 20000
set_option linter.unusedVariables false
open Go.ChangeShapes Go.WideShapes Go.ChangeAt Go.RowKit

/-- Where the slice lies was made since. -/
def Fr (W : World) (v : Value) : Prop := ∀ g, v.ownBlock = some g → W.heap.size ≤ g
/-- The cycles ahead of the first instruction's. -/
def lead (f : Int) : Int := if f ≤ 0 then 0 else if f ≤ 3 then f else 3
set_option maxRecDepth 20000 in
set_option maxHeartbeats 4000000 in
theorem prun_hi (X : List Ins) (v iv : Value) (z f : Int) (I : List Int) (W : World) (hv : Code W v X) (hi : IntsC W iv I) (hX : X.length ≤ 4096) (hz : 0 ≤ z ∧ z ≤ 32000) (hf : f ≤ 1000000) (hlo : 3 < f) :
    Calls Try.prog 14 #[v, .int .i64 z, iv, .int .i64 f] W fun e W' => ∃ (k : Nat) (ov mv : Value), EndsP X (startP z.toNat I) (f - 3).toNat k ∧ e = .returned (.agg #[.int .i64 (runP X (startP z.toNat I) k).1, .int .i64 (lead f + (k : Int)), ov, mv]) ∧
      Ints .i64 W' ov (runP X (startP z.toNat I) k).2.st.out ∧ Ints .i64 W' mv (usedL (runP X (startP z.toNat I) k).2.st.mem) ∧ Bel W W' ∧ (runP X (startP z.toNat I) k).2.st.out.length ≤ 10000 ∧ (runP X (startP z.toNat I) k).2.st.mem.length ≤ 32000 ∧ Fr W ov ∧ Fr W mv := by
  obtain ⟨kz, rfl⟩ := nat_of hz.1
  rw [Int.toNat_natCast]
  obtain ⟨ao, cap, rfl, hcells⟩ := id hv
  obtain ⟨ai, ci, rfl, _⟩ := id hi
  have hn' : ¬ ((4096 : Int) < X.length) := by omega
  have HV := hidm hv
  have HI := hidm hi
  clear hv hi hcells
  generalize hs0 : startP kz I = s0
  have HS0 := hidm hs0
  clear hs0
  go_enter Try.func14, Try.ntmps14
  go_wp2_with (first
    | (go_at_call 18; refine (new_any _ kz rfl (by omega) _).mono ?_; rintro e w1 ⟨rfl, hm, hB⟩; obtain ⟨w2, hst, hbx, hb2, hsz⟩ := store_pc ao X.length cap (W.heap.size + 1 + 1) ai I.length ci w1; have HX := hidm ((hb2.out.block _ (by have := hB.size; simp at this; omega)).trans ((hB.out.block W.heap.size (by simp)).trans (heap_new W _))); have HM := hidm (hm.bel hb2); have HB := hidm (btrans (btrans ((Bel.refl W).alloc _) hB) hb2); have HBX := hidm hbx; have hsw : W.heap.size < w1.heap.size := (by have := hB.size; simp at this; omega); clear hB hm hbx hb2; have HST := hidm hst; clear hst)
    | (refine wpList_build_pc (by rfl) (.tmp 22) (.tmp 23) (.tmp 24) (.const (.int .i64 1)) (by rfl) _ _ _ _ _ _ _ (by rfl) (by rfl) (by rfl) (by rfl) ?_)
    | (refine wpList_alloc_pc (by rfl) (by rfl) ?_)
    | (refine wpList_store_pc (by rfl) (.tmp 10) (.tmp 25) (by rfl) _ _ (by rfl) (by rfl) w2 (Hid.out HST) ?_))
  have hs0 := Hid.out HS0
  have h0 : IsR8 W w2 w1.heap.size (W.heap.size + 1 + 1) (W.heap.size + 1) (.slice ao X.length cap) X s0 := by
    rw [← hs0]
    have hm : IsM (W.heap.size + 1) w2 (W.heap.size + 1 + 1) (W.heap.size + 1) (List.replicate kz 0) := by
      have e : ∀ o, (W.alloc o).heap.size = W.heap.size + 1 := fun o => by simp
      have := Hid.out HM
      rw [e] at this
      exact this
    exact ⟨_, _, Hid.out HBX, Nat.le_of_lt hsw, ⟨hm.box, hm.row, by omega, by omega⟩, Hid.out HV, Hid.out HI, World.ownsRow_nil _ _ _ _, (by intro e; cases e), Hid.out HB, startP_ok _ _, (by simp [startP, start]; omega), (by simp [startP, start])⟩
  clear hs0 HBX HM HI HV HST
  have h1 := h0.stay ((Bel.refl w2).alloc (resB 0 3 (.slice none 0 0) (.slice none 0 0)))
  have hr1 := heap_new w2 (resB 0 3 (.slice none 0 0) (.slice none 0 0))
  have hx1 := heap_old (o := resB 0 3 (.slice none 0 0) (.slice none 0 0)) (Hid.out HX)
  rw [hsz] at hr1
  clear h0 HX HB
  go_loopw [39] (fun m wr => ∃ (k : Nat) (n : Int), n = 3 + k ∧ IsR8 W wr w1.heap.size (W.heap.size + 1 + 1) (W.heap.size + 1) (.slice ao X.length cap) X (runP X s0 k).2 ∧ wr.heap[w1.heap.size + 1]? = some (resB (runP X s0 k).1 n (.slice none 0 0) (.slice none 0 0)) ∧
    wr.heap[W.heap.size]? = some (resB 0 0 (.slice none 0 0) (.slice none 0 0)) ∧ (∀ j, j < k → (runP X s0 j).1 = 0) ∧ k ≤ (f - 3).toNat) (fun _ wr => (f + 10).toNat - (intOf ((wr.cell? ⟨w1.heap.size + 1, 1, none⟩).getD undef)).toNat)
  case atStart => exact ⟨0, 3, by omega, h1, hr1, hx1, fun j hj => absurd hj (Nat.not_lt_zero j), Nat.zero_le _⟩
  case round =>
    obtain ⟨k, n, hn, hM, hR, hW0, hall, hk⟩ := hrel
    have hnb : 0 ≤ n ∧ n ≤ 1000003 := by omega
    have HF : Hid ((f ≤ n → k = (f - 3).toNat) ∧ (n < f → k + 1 ≤ (f - 3).toNat)) := hidm (by omega)
    have HLd : Hid (lead f + (k : Int) = n) := hidm (by unfold lead; omega)
    have HN := hidm hn
    clear hn
    rename World => wr
    clear h1 hr1 hx1
    have hW1 := hM.bel.size
    by_cases hgo : (runP X s0 k).1 = 0 ∧ n < f
    · obtain ⟨ht, hkf⟩ := hgo
      have hall2 : ∀ j, j < k + 1 → (runP X s0 j).1 = 0 := fun j hj => by
        rcases Nat.lt_or_ge j k with h | h
        · exact hall j h
        · obtain rfl : j = k := by omega
          exact ht
      have hsucc := runP_succ ht
      rw [ht] at hR
      obtain ⟨d0, d1, d2, d3⟩ := resB_cells hR
      have HSt := hidm (pstep_any hM hX)
      have HM := hidm hM
      have HR := hidm hR
      have HW0 := hidm hW0
      have HA := hidm hall2
      have HSu := hidm hsucc
      clear hall hall2 hsucc hM hR hW0 ht
      go_wp2_with (first
        | (go_at_call 19; refine (Hid.out HSt).mono ?_; rintro e w3 ⟨rfl, q1, q2⟩; have hR3 := resP_kept q2 (Hid.out HR); have hW3 := resP_kept q2 (Hid.out HW0); obtain ⟨e0, e1, e2, e3⟩ := resB_cells hR3; have g0 := resB_fz hR3 0; have g1 := resB_fz hR3 1; have HR3 := hidm hR3; have HW3 := hidm hW3; clear hR3 hW3))
      have j1 := q1.other (Hid.out HR3) (by omega) 0 (.int .i64 (stepP X (runP X s0 k).2).1)
      have r1 := (resB_set (Hid.out HR3)).1 (stepP X (runP X s0 k).2).1
      have j2 := j1.other r1 (by omega) 1 (.int .i64 (n + 1))
      have r2 := (resB_set r1).2.1 (n + 1)
      have x2 := (heap_set_other (w := w3.setCell ⟨w1.heap.size + 1, 0, none⟩ (.int .i64 (stepP X (runP X s0 k).2).1)) (b := w1.heap.size + 1) (o := 1) (k := W.heap.size) (u := .int .i64 (n + 1)) (by omega)).trans ((heap_set_other (w := w3) (b := w1.heap.size + 1) (o := 0) (k := W.heap.size) (u := .int .i64 (stepP X (runP X s0 k).2).1) (by omega)).trans (Hid.out HW3))
      have hsu := Hid.out HSu
      go_roundw
      case rel =>
        refine ⟨k + 1, n + 1, by have := Hid.out HN; omega, ?_, ?_, x2, Hid.out HA, (Hid.out HF).2 hkf⟩
        · rw [hsu]; exact j2
        · rw [hsu]; exact r2
      case measure =>
        rw [cell_of r2 1]
        simp [intOf, d1]
        omega
    · have HE : Hid (EndsP X s0 (f - 3).toNat k) := hidm ⟨hk, hall, by
        rcases Int.lt_or_le n f with h | h
        · exact .inl (fun e => hgo ⟨e, h⟩)
        · exact .inr ((Hid.out HF).1 h)⟩
      obtain ⟨⟨t, st⟩, hrk⟩ : ∃ q, runP X s0 k = q := ⟨_, rfl⟩
      rw [hrk] at hM hR hgo
      have HRk := hidm hrk
      dsimp only at hM hR hgo
      clear hall hrk
      obtain ⟨d0, d1, d2, d3⟩ := resB_cells hR
      obtain ⟨iv, ov, hC⟩ := hM
      have c36 : wr.cell? ⟨w1.heap.size, 39, none⟩ = some ov := by rw [cell_of hC.box]; exact boxP_at hC.ok.ok.len 5
      obtain ⟨ao2, cap2, rfl⟩ := row_slice hC.out
      have HU := hidm (used_any (hC.mem.bel ((Bel.refl wr).drew)) hC.lenm)
      have HC := hidm hC
      have HR := hidm hR
      have HW0 := hidm hW0
      clear hC hR hW0
      have hcase : (t = 0 ∧ f ≤ n) ∨ ¬ t = 0 := by
        by_cases h : t = 0
        · exact .inl ⟨h, by omega⟩
        · exact .inr h
      clear hgo
      rcases hcase with ⟨ht, hkf⟩ | ht
      all_goals
        first
        | (have ht' : (t == 0) = true := by simpa using ht)
        | (have ht' : (t == 0) = false := by simpa using ht)
        clear ht
        go_wp2_with fail
        go_region_held3 (fun w' => w'.cell? ⟨w1.heap.size, 39, none⟩ = some (.slice ao2 st.st.out.length cap2)) (go_keep) (first
          | (go_at_call 20; refine (Hid.out HU).mono ?_; rintro e w3 ⟨ku, mv, hE, rfl, hrow, hB3⟩; rw [used_of hE] at hrow; obtain ⟨am, cm, rfl⟩ := row_slice hrow; have hB3' := btrans ((Bel.refl wr).drew) hB3; have c3 : w3.cell? ⟨w1.heap.size, 39, none⟩ = some (.slice ao2 st.st.out.length cap2) := ((bcell hB3').1 _ _ (lt_of_heap (Hid.out HC).box)).trans c36; have hR3 := (hB3'.out.block _ (lt_of_heap (Hid.out HR))).trans (Hid.out HR); have hW3 := (hB3'.out.block _ (lt_of_heap (Hid.out HW0))).trans (Hid.out HW0); obtain ⟨e0, e1, e2, e3⟩ := resB_cells hR3; obtain ⟨i0, i1, i2, i3⟩ := resB_cells hW3; have g0 := resB_fz hR3; have g1 := resB_fz hW3; have HR3 := hidm hR3; have HW3 := hidm hW3; have HROW := hidm hrow; have HB3 := hidm hB3'; clear hR3 hW3 hrow hB3 hB3' hE))
        go_wp2_with fail
        have hR3 := Hid.out HR3
        have hW3 := Hid.out HW3
        have ro3 := row_bel (Hid.out HC).out (Hid.out HB3)
        have rm3 := row_base (Hid.out HROW) (n₀ := W.heap.size) (by have := hW1; simpa using this)
        have B3 := btrans (Hid.out HC).bel (Hid.out HB3)
        have rb1 := (resB_set hR3).2.2.1 (.slice ao2 st.st.out.length cap2)
        have ro4 := row_res ro3 hR3 2 (.slice ao2 st.st.out.length cap2)
        have rm4 := row_res rm3 hR3 2 (.slice ao2 st.st.out.length cap2)
        have w4 := (heap_set_other (w := w3) (b := w1.heap.size + 1) (o := 2) (k := W.heap.size) (u := .slice ao2 st.st.out.length cap2) (by omega)).trans hW3
        have ro5 := row_res ro4 rb1 3 (.slice am (usedL st.st.mem).length cm)
        have rm5 := row_res rm4 rb1 3 (.slice am (usedL st.st.mem).length cm)
        have w5 := (heap_set_other (w := w3.setCell ⟨w1.heap.size + 1, 2, none⟩ (.slice ao2 st.st.out.length cap2)) (b := w1.heap.size + 1) (o := 3) (k := W.heap.size) (u := .slice am (usedL st.st.mem).length cm) (by omega)).trans w4
        have ro6 := row_res ro5 w5 0 (.int .i64 t)
        have rm6 := row_res rm5 w5 0 (.int .i64 t)
        have w6 := (resB_set w5).1 t
        have ro7 := row_res ro6 w6 1 (.int .i64 n)
        have rm7 := row_res rm6 w6 1 (.int .i64 n)
        have w7 := (resB_set w6).2.1 n
        have ro8 := row_res ro7 w7 2 (.slice ao2 st.st.out.length cap2)
        have rm8 := row_res rm7 w7 2 (.slice ao2 st.st.out.length cap2)
        have w8 := (resB_set w7).2.2.1 (.slice ao2 st.st.out.length cap2)
        have ro9 := row_res ro8 w8 3 (.slice am (usedL st.st.mem).length cm)
        have rm9 := row_res rm8 w8 3 (.slice am (usedL st.st.mem).length cm)
        have B9 := ((((((B3.setCell (p := ⟨w1.heap.size + 1, 2, none⟩) (by show W.heap.size ≤ w1.heap.size + 1; omega) (.slice ao2 st.st.out.length cap2)).setCell (p := ⟨w1.heap.size + 1, 3, none⟩) (by show W.heap.size ≤ w1.heap.size + 1; omega) (.slice am (usedL st.st.mem).length cm)).setCell (p := ⟨W.heap.size, 0, none⟩) (Nat.le_refl _) (.int .i64 t)).setCell (p := ⟨W.heap.size, 1, none⟩) (Nat.le_refl _) (.int .i64 n)).setCell (p := ⟨W.heap.size, 2, none⟩) (Nat.le_refl _) (.slice ao2 st.st.out.length cap2)).setCell (p := ⟨W.heap.size, 3, none⟩) (Nat.le_refl _) (.slice am (usedL st.st.mem).length cm))
        obtain ⟨z0, z1, z2, z3⟩ := resB_cells ((resB_set w8).2.2.2 (.slice am (usedL st.st.mem).length cm))
        clear ro3 ro4 ro5 ro6 ro7 ro8 rm3 rm4 rm5 rm6 rm7 rm8 w4 w5 w6 w7 w8 B3 rb1
        refine bodyPost_ret (v := .agg #[.int .i64 t, .int .i64 n, .slice ao2 st.st.out.length cap2, .slice am (usedL st.st.mem).length cm]) (by simp [results, Try.results14, go_sem, i0, i1, i2, i3]) rfl ⟨k, .slice ao2 st.st.out.length cap2, .slice am (usedL st.st.mem).length cm, Hid.out HE, ?_, ?_, ?_, ?_, ?_, ?_, ?_, ?_⟩
        · rw [Hid.out HRk, Hid.out HLd]
        · rw [Hid.out HRk]; exact ints_of_row ro9
        · rw [Hid.out HRk]; exact ints_of_row rm9
        · exact B9
        · rw [Hid.out HRk]; exact (Hid.out HC).leno
        · rw [Hid.out HRk]; exact (Hid.out HC).lenm
        · exact fun g hg => (ro9.lt g hg).1
        · exact fun g hg => (rm9.lt g hg).1
set_option maxRecDepth 20000 in
set_option maxHeartbeats 4000000 in
theorem prun_mid (X : List Ins) (v iv : Value) (z f : Int) (I : List Int) (W : World) (hv : Code W v X) (hi : IntsC W iv I) (hX : X.length ≤ 4096) (hz : 0 ≤ z ∧ z ≤ 32000) (hf : f ≤ 1000000) (hlo : f ≤ 3) (hlo2 : 0 < f) :
    Calls Try.prog 14 #[v, .int .i64 z, iv, .int .i64 f] W fun e W' => ∃ (k : Nat) (ov mv : Value), EndsP X (startP z.toNat I) (f - 3).toNat k ∧ e = .returned (.agg #[.int .i64 (runP X (startP z.toNat I) k).1, .int .i64 (lead f + (k : Int)), ov, mv]) ∧
      Ints .i64 W' ov (runP X (startP z.toNat I) k).2.st.out ∧ Ints .i64 W' mv (usedL (runP X (startP z.toNat I) k).2.st.mem) ∧ Bel W W' ∧ (runP X (startP z.toNat I) k).2.st.out.length ≤ 10000 ∧ (runP X (startP z.toNat I) k).2.st.mem.length ≤ 32000 ∧ Fr W ov ∧ Fr W mv := by
  obtain ⟨kz, rfl⟩ := nat_of hz.1
  rw [Int.toNat_natCast]
  obtain ⟨ao, cap, rfl, hcells⟩ := id hv
  obtain ⟨ai, ci, rfl, _⟩ := id hi
  have hn' : ¬ ((4096 : Int) < X.length) := by omega
  have HV := hidm hv
  have HI := hidm hi
  clear hv hi hcells
  generalize hs0 : startP kz I = s0
  have HS0 := hidm hs0
  clear hs0
  go_enter Try.func14, Try.ntmps14
  go_wp2_with (first
    | (go_at_call 18; refine (new_any _ kz rfl (by omega) _).mono ?_; rintro e w1 ⟨rfl, hm, hB⟩; obtain ⟨w2, hst, hbx, hb2, hsz⟩ := store_pc ao X.length cap (W.heap.size + 1 + 1) ai I.length ci w1; have HX := hidm ((hb2.out.block _ (by have := hB.size; simp at this; omega)).trans ((hB.out.block W.heap.size (by simp)).trans (heap_new W _))); have HM := hidm (hm.bel hb2); have HB := hidm (btrans (btrans ((Bel.refl W).alloc _) hB) hb2); have HBX := hidm hbx; have hsw : W.heap.size < w1.heap.size := (by have := hB.size; simp at this; omega); clear hB hm hbx hb2; have HST := hidm hst; clear hst)
    | (refine wpList_build_pc (by rfl) (.tmp 22) (.tmp 23) (.tmp 24) (.const (.int .i64 1)) (by rfl) _ _ _ _ _ _ _ (by rfl) (by rfl) (by rfl) (by rfl) ?_)
    | (refine wpList_alloc_pc (by rfl) (by rfl) ?_)
    | (refine wpList_store_pc (by rfl) (.tmp 10) (.tmp 25) (by rfl) _ _ (by rfl) (by rfl) w2 (Hid.out HST) ?_))
  have hs0 := Hid.out HS0
  have h0 : IsR8 W w2 w1.heap.size (W.heap.size + 1 + 1) (W.heap.size + 1) (.slice ao X.length cap) X s0 := by
    rw [← hs0]
    have hm : IsM (W.heap.size + 1) w2 (W.heap.size + 1 + 1) (W.heap.size + 1) (List.replicate kz 0) := by
      have e : ∀ o, (W.alloc o).heap.size = W.heap.size + 1 := fun o => by simp
      have := Hid.out HM
      rw [e] at this
      exact this
    exact ⟨_, _, Hid.out HBX, Nat.le_of_lt hsw, ⟨hm.box, hm.row, by omega, by omega⟩, Hid.out HV, Hid.out HI, World.ownsRow_nil _ _ _ _, (by intro e; cases e), Hid.out HB, startP_ok _ _, (by simp [startP, start]; omega), (by simp [startP, start])⟩
  clear hs0 HBX HM HI HV HST
  have h1 := h0.stay ((Bel.refl w2).alloc (resB 0 f (.slice none 0 0) (.slice none 0 0)))
  have hr1 := heap_new w2 (resB 0 f (.slice none 0 0) (.slice none 0 0))
  have hx1 := heap_old (o := resB 0 f (.slice none 0 0) (.slice none 0 0)) (Hid.out HX)
  rw [hsz] at hr1
  clear h0 HX HB
  go_loopw [39] (fun m wr => ∃ (k : Nat) (n : Int), n = f + k ∧ IsR8 W wr w1.heap.size (W.heap.size + 1 + 1) (W.heap.size + 1) (.slice ao X.length cap) X (runP X s0 k).2 ∧ wr.heap[w1.heap.size + 1]? = some (resB (runP X s0 k).1 n (.slice none 0 0) (.slice none 0 0)) ∧
    wr.heap[W.heap.size]? = some (resB 0 0 (.slice none 0 0) (.slice none 0 0)) ∧ (∀ j, j < k → (runP X s0 j).1 = 0) ∧ k ≤ (f - 3).toNat) (fun _ wr => (f + 10).toNat - (intOf ((wr.cell? ⟨w1.heap.size + 1, 1, none⟩).getD undef)).toNat)
  case atStart => exact ⟨0, f, by omega, h1, hr1, hx1, fun j hj => absurd hj (Nat.not_lt_zero j), Nat.zero_le _⟩
  case round =>
    obtain ⟨k, n, hn, hM, hR, hW0, hall, hk⟩ := hrel
    have hnb : 0 ≤ n ∧ n ≤ 1000003 := by omega
    have HF : Hid ((f ≤ n → k = (f - 3).toNat) ∧ (n < f → k + 1 ≤ (f - 3).toNat)) := hidm (by omega)
    have HLd : Hid (lead f + (k : Int) = n) := hidm (by unfold lead; omega)
    have HN := hidm hn
    clear hn
    rename World => wr
    clear h1 hr1 hx1
    have hW1 := hM.bel.size
    by_cases hgo : (runP X s0 k).1 = 0 ∧ n < f
    · obtain ⟨ht, hkf⟩ := hgo
      have hall2 : ∀ j, j < k + 1 → (runP X s0 j).1 = 0 := fun j hj => by
        rcases Nat.lt_or_ge j k with h | h
        · exact hall j h
        · obtain rfl : j = k := by omega
          exact ht
      have hsucc := runP_succ ht
      rw [ht] at hR
      obtain ⟨d0, d1, d2, d3⟩ := resB_cells hR
      have HSt := hidm (pstep_any hM hX)
      have HM := hidm hM
      have HR := hidm hR
      have HW0 := hidm hW0
      have HA := hidm hall2
      have HSu := hidm hsucc
      clear hall hall2 hsucc hM hR hW0 ht
      go_wp2_with (first
        | (go_at_call 19; refine (Hid.out HSt).mono ?_; rintro e w3 ⟨rfl, q1, q2⟩; have hR3 := resP_kept q2 (Hid.out HR); have hW3 := resP_kept q2 (Hid.out HW0); obtain ⟨e0, e1, e2, e3⟩ := resB_cells hR3; have g0 := resB_fz hR3 0; have g1 := resB_fz hR3 1; have HR3 := hidm hR3; have HW3 := hidm hW3; clear hR3 hW3))
      have j1 := q1.other (Hid.out HR3) (by omega) 0 (.int .i64 (stepP X (runP X s0 k).2).1)
      have r1 := (resB_set (Hid.out HR3)).1 (stepP X (runP X s0 k).2).1
      have j2 := j1.other r1 (by omega) 1 (.int .i64 (n + 1))
      have r2 := (resB_set r1).2.1 (n + 1)
      have x2 := (heap_set_other (w := w3.setCell ⟨w1.heap.size + 1, 0, none⟩ (.int .i64 (stepP X (runP X s0 k).2).1)) (b := w1.heap.size + 1) (o := 1) (k := W.heap.size) (u := .int .i64 (n + 1)) (by omega)).trans ((heap_set_other (w := w3) (b := w1.heap.size + 1) (o := 0) (k := W.heap.size) (u := .int .i64 (stepP X (runP X s0 k).2).1) (by omega)).trans (Hid.out HW3))
      have hsu := Hid.out HSu
      go_roundw
      case rel =>
        refine ⟨k + 1, n + 1, by have := Hid.out HN; omega, ?_, ?_, x2, Hid.out HA, (Hid.out HF).2 hkf⟩
        · rw [hsu]; exact j2
        · rw [hsu]; exact r2
      case measure =>
        rw [cell_of r2 1]
        simp [intOf, d1]
        omega
    · have HE : Hid (EndsP X s0 (f - 3).toNat k) := hidm ⟨hk, hall, by
        rcases Int.lt_or_le n f with h | h
        · exact .inl (fun e => hgo ⟨e, h⟩)
        · exact .inr ((Hid.out HF).1 h)⟩
      obtain ⟨⟨t, st⟩, hrk⟩ : ∃ q, runP X s0 k = q := ⟨_, rfl⟩
      rw [hrk] at hM hR hgo
      have HRk := hidm hrk
      dsimp only at hM hR hgo
      clear hall hrk
      obtain ⟨d0, d1, d2, d3⟩ := resB_cells hR
      obtain ⟨iv, ov, hC⟩ := hM
      have c36 : wr.cell? ⟨w1.heap.size, 39, none⟩ = some ov := by rw [cell_of hC.box]; exact boxP_at hC.ok.ok.len 5
      obtain ⟨ao2, cap2, rfl⟩ := row_slice hC.out
      have HU := hidm (used_any (hC.mem.bel ((Bel.refl wr).drew)) hC.lenm)
      have HC := hidm hC
      have HR := hidm hR
      have HW0 := hidm hW0
      clear hC hR hW0
      have hcase : (t = 0 ∧ f ≤ n) ∨ ¬ t = 0 := by
        by_cases h : t = 0
        · exact .inl ⟨h, by omega⟩
        · exact .inr h
      clear hgo
      rcases hcase with ⟨ht, hkf⟩ | ht
      all_goals
        first
        | (have ht' : (t == 0) = true := by simpa using ht)
        | (have ht' : (t == 0) = false := by simpa using ht)
        clear ht
        go_wp2_with fail
        go_region_held3 (fun w' => w'.cell? ⟨w1.heap.size, 39, none⟩ = some (.slice ao2 st.st.out.length cap2)) (go_keep) (first
          | (go_at_call 20; refine (Hid.out HU).mono ?_; rintro e w3 ⟨ku, mv, hE, rfl, hrow, hB3⟩; rw [used_of hE] at hrow; obtain ⟨am, cm, rfl⟩ := row_slice hrow; have hB3' := btrans ((Bel.refl wr).drew) hB3; have c3 : w3.cell? ⟨w1.heap.size, 39, none⟩ = some (.slice ao2 st.st.out.length cap2) := ((bcell hB3').1 _ _ (lt_of_heap (Hid.out HC).box)).trans c36; have hR3 := (hB3'.out.block _ (lt_of_heap (Hid.out HR))).trans (Hid.out HR); have hW3 := (hB3'.out.block _ (lt_of_heap (Hid.out HW0))).trans (Hid.out HW0); obtain ⟨e0, e1, e2, e3⟩ := resB_cells hR3; obtain ⟨i0, i1, i2, i3⟩ := resB_cells hW3; have g0 := resB_fz hR3; have g1 := resB_fz hW3; have HR3 := hidm hR3; have HW3 := hidm hW3; have HROW := hidm hrow; have HB3 := hidm hB3'; clear hR3 hW3 hrow hB3 hB3' hE))
        go_wp2_with fail
        have hR3 := Hid.out HR3
        have hW3 := Hid.out HW3
        have ro3 := row_bel (Hid.out HC).out (Hid.out HB3)
        have rm3 := row_base (Hid.out HROW) (n₀ := W.heap.size) (by have := hW1; simpa using this)
        have B3 := btrans (Hid.out HC).bel (Hid.out HB3)
        have rb1 := (resB_set hR3).2.2.1 (.slice ao2 st.st.out.length cap2)
        have ro4 := row_res ro3 hR3 2 (.slice ao2 st.st.out.length cap2)
        have rm4 := row_res rm3 hR3 2 (.slice ao2 st.st.out.length cap2)
        have w4 := (heap_set_other (w := w3) (b := w1.heap.size + 1) (o := 2) (k := W.heap.size) (u := .slice ao2 st.st.out.length cap2) (by omega)).trans hW3
        have ro5 := row_res ro4 rb1 3 (.slice am (usedL st.st.mem).length cm)
        have rm5 := row_res rm4 rb1 3 (.slice am (usedL st.st.mem).length cm)
        have w5 := (heap_set_other (w := w3.setCell ⟨w1.heap.size + 1, 2, none⟩ (.slice ao2 st.st.out.length cap2)) (b := w1.heap.size + 1) (o := 3) (k := W.heap.size) (u := .slice am (usedL st.st.mem).length cm) (by omega)).trans w4
        have ro6 := row_res ro5 w5 0 (.int .i64 t)
        have rm6 := row_res rm5 w5 0 (.int .i64 t)
        have w6 := (resB_set w5).1 t
        have ro7 := row_res ro6 w6 1 (.int .i64 n)
        have rm7 := row_res rm6 w6 1 (.int .i64 n)
        have w7 := (resB_set w6).2.1 n
        have ro8 := row_res ro7 w7 2 (.slice ao2 st.st.out.length cap2)
        have rm8 := row_res rm7 w7 2 (.slice ao2 st.st.out.length cap2)
        have w8 := (resB_set w7).2.2.1 (.slice ao2 st.st.out.length cap2)
        have ro9 := row_res ro8 w8 3 (.slice am (usedL st.st.mem).length cm)
        have rm9 := row_res rm8 w8 3 (.slice am (usedL st.st.mem).length cm)
        have B9 := ((((((B3.setCell (p := ⟨w1.heap.size + 1, 2, none⟩) (by show W.heap.size ≤ w1.heap.size + 1; omega) (.slice ao2 st.st.out.length cap2)).setCell (p := ⟨w1.heap.size + 1, 3, none⟩) (by show W.heap.size ≤ w1.heap.size + 1; omega) (.slice am (usedL st.st.mem).length cm)).setCell (p := ⟨W.heap.size, 0, none⟩) (Nat.le_refl _) (.int .i64 t)).setCell (p := ⟨W.heap.size, 1, none⟩) (Nat.le_refl _) (.int .i64 n)).setCell (p := ⟨W.heap.size, 2, none⟩) (Nat.le_refl _) (.slice ao2 st.st.out.length cap2)).setCell (p := ⟨W.heap.size, 3, none⟩) (Nat.le_refl _) (.slice am (usedL st.st.mem).length cm))
        obtain ⟨z0, z1, z2, z3⟩ := resB_cells ((resB_set w8).2.2.2 (.slice am (usedL st.st.mem).length cm))
        clear ro3 ro4 ro5 ro6 ro7 ro8 rm3 rm4 rm5 rm6 rm7 rm8 w4 w5 w6 w7 w8 B3 rb1
        refine bodyPost_ret (v := .agg #[.int .i64 t, .int .i64 n, .slice ao2 st.st.out.length cap2, .slice am (usedL st.st.mem).length cm]) (by simp [results, Try.results14, go_sem, i0, i1, i2, i3]) rfl ⟨k, .slice ao2 st.st.out.length cap2, .slice am (usedL st.st.mem).length cm, Hid.out HE, ?_, ?_, ?_, ?_, ?_, ?_, ?_, ?_⟩
        · rw [Hid.out HRk, Hid.out HLd]
        · rw [Hid.out HRk]; exact ints_of_row ro9
        · rw [Hid.out HRk]; exact ints_of_row rm9
        · exact B9
        · rw [Hid.out HRk]; exact (Hid.out HC).leno
        · rw [Hid.out HRk]; exact (Hid.out HC).lenm
        · exact fun g hg => (ro9.lt g hg).1
        · exact fun g hg => (rm9.lt g hg).1
set_option maxRecDepth 20000 in
set_option maxHeartbeats 4000000 in
theorem prun_lo (X : List Ins) (v iv : Value) (z f : Int) (I : List Int) (W : World) (hv : Code W v X) (hi : IntsC W iv I) (hX : X.length ≤ 4096) (hz : 0 ≤ z ∧ z ≤ 32000) (hf : f ≤ 1000000) (hlo2 : f ≤ 3) (hlo : f ≤ 0) :
    Calls Try.prog 14 #[v, .int .i64 z, iv, .int .i64 f] W fun e W' => ∃ (k : Nat) (ov mv : Value), EndsP X (startP z.toNat I) (f - 3).toNat k ∧ e = .returned (.agg #[.int .i64 (runP X (startP z.toNat I) k).1, .int .i64 (lead f + (k : Int)), ov, mv]) ∧
      Ints .i64 W' ov (runP X (startP z.toNat I) k).2.st.out ∧ Ints .i64 W' mv (usedL (runP X (startP z.toNat I) k).2.st.mem) ∧ Bel W W' ∧ (runP X (startP z.toNat I) k).2.st.out.length ≤ 10000 ∧ (runP X (startP z.toNat I) k).2.st.mem.length ≤ 32000 ∧ Fr W ov ∧ Fr W mv := by
  obtain ⟨kz, rfl⟩ := nat_of hz.1
  rw [Int.toNat_natCast]
  obtain ⟨ao, cap, rfl, hcells⟩ := id hv
  obtain ⟨ai, ci, rfl, _⟩ := id hi
  have hn' : ¬ ((4096 : Int) < X.length) := by omega
  have HV := hidm hv
  have HI := hidm hi
  clear hv hi hcells
  generalize hs0 : startP kz I = s0
  have HS0 := hidm hs0
  clear hs0
  go_enter Try.func14, Try.ntmps14
  go_wp2_with (first
    | (go_at_call 18; refine (new_any _ kz rfl (by omega) _).mono ?_; rintro e w1 ⟨rfl, hm, hB⟩; obtain ⟨w2, hst, hbx, hb2, hsz⟩ := store_pc ao X.length cap (W.heap.size + 1 + 1) ai I.length ci w1; have HX := hidm ((hb2.out.block _ (by have := hB.size; simp at this; omega)).trans ((hB.out.block W.heap.size (by simp)).trans (heap_new W _))); have HM := hidm (hm.bel hb2); have HB := hidm (btrans (btrans ((Bel.refl W).alloc _) hB) hb2); have HBX := hidm hbx; have hsw : W.heap.size < w1.heap.size := (by have := hB.size; simp at this; omega); clear hB hm hbx hb2; have HST := hidm hst; clear hst)
    | (refine wpList_build_pc (by rfl) (.tmp 22) (.tmp 23) (.tmp 24) (.const (.int .i64 1)) (by rfl) _ _ _ _ _ _ _ (by rfl) (by rfl) (by rfl) (by rfl) ?_)
    | (refine wpList_alloc_pc (by rfl) (by rfl) ?_)
    | (refine wpList_store_pc (by rfl) (.tmp 10) (.tmp 25) (by rfl) _ _ (by rfl) (by rfl) w2 (Hid.out HST) ?_))
  have hs0 := Hid.out HS0
  have h0 : IsR8 W w2 w1.heap.size (W.heap.size + 1 + 1) (W.heap.size + 1) (.slice ao X.length cap) X s0 := by
    rw [← hs0]
    have hm : IsM (W.heap.size + 1) w2 (W.heap.size + 1 + 1) (W.heap.size + 1) (List.replicate kz 0) := by
      have e : ∀ o, (W.alloc o).heap.size = W.heap.size + 1 := fun o => by simp
      have := Hid.out HM
      rw [e] at this
      exact this
    exact ⟨_, _, Hid.out HBX, Nat.le_of_lt hsw, ⟨hm.box, hm.row, by omega, by omega⟩, Hid.out HV, Hid.out HI, World.ownsRow_nil _ _ _ _, (by intro e; cases e), Hid.out HB, startP_ok _ _, (by simp [startP, start]; omega), (by simp [startP, start])⟩
  clear hs0 HBX HM HI HV HST
  have h1 := h0.stay ((Bel.refl w2).alloc (resB 0 0 (.slice none 0 0) (.slice none 0 0)))
  have hr1 := heap_new w2 (resB 0 0 (.slice none 0 0) (.slice none 0 0))
  have hx1 := heap_old (o := resB 0 0 (.slice none 0 0) (.slice none 0 0)) (Hid.out HX)
  rw [hsz] at hr1
  clear h0 HX HB
  go_loopw [39] (fun m wr => ∃ (k : Nat) (n : Int), n = 0 + k ∧ IsR8 W wr w1.heap.size (W.heap.size + 1 + 1) (W.heap.size + 1) (.slice ao X.length cap) X (runP X s0 k).2 ∧ wr.heap[w1.heap.size + 1]? = some (resB (runP X s0 k).1 n (.slice none 0 0) (.slice none 0 0)) ∧
    wr.heap[W.heap.size]? = some (resB 0 0 (.slice none 0 0) (.slice none 0 0)) ∧ (∀ j, j < k → (runP X s0 j).1 = 0) ∧ k ≤ (f - 3).toNat) (fun _ wr => (f + 10).toNat - (intOf ((wr.cell? ⟨w1.heap.size + 1, 1, none⟩).getD undef)).toNat)
  case atStart => exact ⟨0, 0, by omega, h1, hr1, hx1, fun j hj => absurd hj (Nat.not_lt_zero j), Nat.zero_le _⟩
  case round =>
    obtain ⟨k, n, hn, hM, hR, hW0, hall, hk⟩ := hrel
    have hnb : 0 ≤ n ∧ n ≤ 1000003 := by omega
    have HF : Hid ((f ≤ n → k = (f - 3).toNat) ∧ (n < f → k + 1 ≤ (f - 3).toNat)) := hidm (by omega)
    have HLd : Hid (lead f + (k : Int) = n) := hidm (by unfold lead; omega)
    have HN := hidm hn
    clear hn
    rename World => wr
    clear h1 hr1 hx1
    have hW1 := hM.bel.size
    by_cases hgo : (runP X s0 k).1 = 0 ∧ n < f
    · obtain ⟨ht, hkf⟩ := hgo
      exfalso
      omega
    · have HE : Hid (EndsP X s0 (f - 3).toNat k) := hidm ⟨hk, hall, by
        rcases Int.lt_or_le n f with h | h
        · exact .inl (fun e => hgo ⟨e, h⟩)
        · exact .inr ((Hid.out HF).1 h)⟩
      obtain ⟨⟨t, st⟩, hrk⟩ : ∃ q, runP X s0 k = q := ⟨_, rfl⟩
      rw [hrk] at hM hR hgo
      have HRk := hidm hrk
      dsimp only at hM hR hgo
      clear hall hrk
      obtain ⟨d0, d1, d2, d3⟩ := resB_cells hR
      obtain ⟨iv, ov, hC⟩ := hM
      have c36 : wr.cell? ⟨w1.heap.size, 39, none⟩ = some ov := by rw [cell_of hC.box]; exact boxP_at hC.ok.ok.len 5
      obtain ⟨ao2, cap2, rfl⟩ := row_slice hC.out
      have HU := hidm (used_any (hC.mem.bel ((Bel.refl wr).drew)) hC.lenm)
      have HC := hidm hC
      have HR := hidm hR
      have HW0 := hidm hW0
      clear hC hR hW0
      have hcase : (t = 0 ∧ f ≤ n) ∨ ¬ t = 0 := by
        by_cases h : t = 0
        · exact .inl ⟨h, by omega⟩
        · exact .inr h
      clear hgo
      rcases hcase with ⟨ht, hkf⟩ | ht
      all_goals
        first
        | (have ht' : (t == 0) = true := by simpa using ht)
        | (have ht' : (t == 0) = false := by simpa using ht)
        clear ht
        go_wp2_with fail
        go_region_held3 (fun w' => w'.cell? ⟨w1.heap.size, 39, none⟩ = some (.slice ao2 st.st.out.length cap2)) (go_keep) (first
          | (go_at_call 20; refine (Hid.out HU).mono ?_; rintro e w3 ⟨ku, mv, hE, rfl, hrow, hB3⟩; rw [used_of hE] at hrow; obtain ⟨am, cm, rfl⟩ := row_slice hrow; have hB3' := btrans ((Bel.refl wr).drew) hB3; have c3 : w3.cell? ⟨w1.heap.size, 39, none⟩ = some (.slice ao2 st.st.out.length cap2) := ((bcell hB3').1 _ _ (lt_of_heap (Hid.out HC).box)).trans c36; have hR3 := (hB3'.out.block _ (lt_of_heap (Hid.out HR))).trans (Hid.out HR); have hW3 := (hB3'.out.block _ (lt_of_heap (Hid.out HW0))).trans (Hid.out HW0); obtain ⟨e0, e1, e2, e3⟩ := resB_cells hR3; obtain ⟨i0, i1, i2, i3⟩ := resB_cells hW3; have g0 := resB_fz hR3; have g1 := resB_fz hW3; have HR3 := hidm hR3; have HW3 := hidm hW3; have HROW := hidm hrow; have HB3 := hidm hB3'; clear hR3 hW3 hrow hB3 hB3' hE))
        go_wp2_with fail
        have hR3 := Hid.out HR3
        have hW3 := Hid.out HW3
        have ro3 := row_bel (Hid.out HC).out (Hid.out HB3)
        have rm3 := row_base (Hid.out HROW) (n₀ := W.heap.size) (by have := hW1; simpa using this)
        have B3 := btrans (Hid.out HC).bel (Hid.out HB3)
        have rb1 := (resB_set hR3).2.2.1 (.slice ao2 st.st.out.length cap2)
        have ro4 := row_res ro3 hR3 2 (.slice ao2 st.st.out.length cap2)
        have rm4 := row_res rm3 hR3 2 (.slice ao2 st.st.out.length cap2)
        have w4 := (heap_set_other (w := w3) (b := w1.heap.size + 1) (o := 2) (k := W.heap.size) (u := .slice ao2 st.st.out.length cap2) (by omega)).trans hW3
        have ro5 := row_res ro4 rb1 3 (.slice am (usedL st.st.mem).length cm)
        have rm5 := row_res rm4 rb1 3 (.slice am (usedL st.st.mem).length cm)
        have w5 := (heap_set_other (w := w3.setCell ⟨w1.heap.size + 1, 2, none⟩ (.slice ao2 st.st.out.length cap2)) (b := w1.heap.size + 1) (o := 3) (k := W.heap.size) (u := .slice am (usedL st.st.mem).length cm) (by omega)).trans w4
        have ro6 := row_res ro5 w5 0 (.int .i64 t)
        have rm6 := row_res rm5 w5 0 (.int .i64 t)
        have w6 := (resB_set w5).1 t
        have ro7 := row_res ro6 w6 1 (.int .i64 n)
        have rm7 := row_res rm6 w6 1 (.int .i64 n)
        have w7 := (resB_set w6).2.1 n
        have ro8 := row_res ro7 w7 2 (.slice ao2 st.st.out.length cap2)
        have rm8 := row_res rm7 w7 2 (.slice ao2 st.st.out.length cap2)
        have w8 := (resB_set w7).2.2.1 (.slice ao2 st.st.out.length cap2)
        have ro9 := row_res ro8 w8 3 (.slice am (usedL st.st.mem).length cm)
        have rm9 := row_res rm8 w8 3 (.slice am (usedL st.st.mem).length cm)
        have B9 := ((((((B3.setCell (p := ⟨w1.heap.size + 1, 2, none⟩) (by show W.heap.size ≤ w1.heap.size + 1; omega) (.slice ao2 st.st.out.length cap2)).setCell (p := ⟨w1.heap.size + 1, 3, none⟩) (by show W.heap.size ≤ w1.heap.size + 1; omega) (.slice am (usedL st.st.mem).length cm)).setCell (p := ⟨W.heap.size, 0, none⟩) (Nat.le_refl _) (.int .i64 t)).setCell (p := ⟨W.heap.size, 1, none⟩) (Nat.le_refl _) (.int .i64 n)).setCell (p := ⟨W.heap.size, 2, none⟩) (Nat.le_refl _) (.slice ao2 st.st.out.length cap2)).setCell (p := ⟨W.heap.size, 3, none⟩) (Nat.le_refl _) (.slice am (usedL st.st.mem).length cm))
        obtain ⟨z0, z1, z2, z3⟩ := resB_cells ((resB_set w8).2.2.2 (.slice am (usedL st.st.mem).length cm))
        clear ro3 ro4 ro5 ro6 ro7 ro8 rm3 rm4 rm5 rm6 rm7 rm8 w4 w5 w6 w7 w8 B3 rb1
        refine bodyPost_ret (v := .agg #[.int .i64 t, .int .i64 n, .slice ao2 st.st.out.length cap2, .slice am (usedL st.st.mem).length cm]) (by simp [results, Try.results14, go_sem, i0, i1, i2, i3]) rfl ⟨k, .slice ao2 st.st.out.length cap2, .slice am (usedL st.st.mem).length cm, Hid.out HE, ?_, ?_, ?_, ?_, ?_, ?_, ?_, ?_⟩
        · rw [Hid.out HRk, Hid.out HLd]
        · rw [Hid.out HRk]; exact ints_of_row ro9
        · rw [Hid.out HRk]; exact ints_of_row rm9
        · exact B9
        · rw [Hid.out HRk]; exact (Hid.out HC).leno
        · rw [Hid.out HRk]; exact (Hid.out HC).lenm
        · exact fun g hg => (ro9.lt g hg).1
        · exact fun g hg => (rm9.lt g hg).1
theorem prun_any (X : List Ins) (v iv : Value) (z f : Int) (I : List Int) (W : World) (hv : Code W v X) (hi : IntsC W iv I) (hX : X.length ≤ 4096) (hz : 0 ≤ z ∧ z ≤ 32000) (hf : f ≤ 1000000) :
    Calls Try.prog 14 #[v, .int .i64 z, iv, .int .i64 f] W fun e W' => ∃ (k : Nat) (ov mv : Value), EndsP X (startP z.toNat I) (f - 3).toNat k ∧ e = .returned (.agg #[.int .i64 (runP X (startP z.toNat I) k).1, .int .i64 (lead f + (k : Int)), ov, mv]) ∧
      Ints .i64 W' ov (runP X (startP z.toNat I) k).2.st.out ∧ Ints .i64 W' mv (usedL (runP X (startP z.toNat I) k).2.st.mem) ∧ Bel W W' ∧ (runP X (startP z.toNat I) k).2.st.out.length ≤ 10000 ∧ (runP X (startP z.toNat I) k).2.st.mem.length ≤ 32000 ∧ Fr W ov ∧ Fr W mv := by
  rcases Int.lt_or_le 3 f with h | h
  · exact prun_hi X v iv z f I W hv hi hX hz hf h
  · rcases Int.lt_or_le 0 f with h' | h'
    · exact prun_mid X v iv z f I W hv hi hX hz hf h h'
    · exact prun_lo X v iv z f I W hv hi hX hz hf h h'
end Go.Proofs.Ythkhlkcdhalkfaa
