/-
  The reference's Run of layer 8, and what it tells.
-/
import Derived.Test.YthkhlkcdhalkfaaQg
import Derived.Test.YthkhlkcdhalkfaaRb
import Derived.Test.YthkhlkcdhalkfaaPy
namespace Go.Proofs.Ythkhlkcdhalkfaa
set_option maxRecDepth 20000
set_option linter.unusedVariables false
open Go.ChangeShapes Go.WideShapes Go.ChangeAt Go.RowKit

def rresB (t n : Int) (o m : Value) : Obj := .cells #[.int .i64 t, .int .i64 n, o, m] 28
theorem rresB_cells {W : World} {k : Nat} {t n : Int} {o m : Value} (h : W.heap[k]? = some (rresB t n o m)) : W.cell? ⟨k, 0, none⟩ = some (.int .i64 t) ∧ W.cell? ⟨k, 1, none⟩ = some (.int .i64 n) ∧ W.cell? ⟨k, 2, none⟩ = some o ∧ W.cell? ⟨k, 3, none⟩ = some m :=
  ⟨cell_of h 0, cell_of h 1, cell_of h 2, cell_of h 3⟩
theorem refrun_badmem (v iv : Value) (ao : Option Addr) (n c : Nat) (hv : v = .slice ao n c) (z f : Int) (W : World) (hn : n ≤ 4096) (hz : z < 0 ∨ 32000 < z) :
    Calls Try.prog 15 #[v, .int .i64 z, iv, .int .i64 f] W fun e W' => e = .returned (.agg #[.int .i64 0, .int .i64 0, .slice none 0 0, .slice none 0 0]) ∧ Bel W W' := by
  subst hv
  have hn' : ¬ ((4096 : Int) < n) := by omega
  have hz' : z < 0 ∨ (¬ z < 0 ∧ 32000 < z) := by omega
  rcases hz' with hz1 | ⟨hz1, hz2⟩
  all_goals
    go_enter Try.func15, Try.ntmps15
    go_wp2
    refine bodyPost_ret (v := .agg #[.int .i64 0, .int .i64 0, .slice none 0 0, .slice none 0 0]) (by simp [results, Try.results15, go_sem]) rfl ⟨rfl, ?_⟩
    repeat (first | exact Bel.refl _ | apply Bel.alloc | (refine Bel.setCell ?_ (by simp) _))
theorem ints_take {V : World} {g d cap : Nat} {L : List Int} (hg : V.heap[g]? = some (.cells (L.map (Value.int .i64)).toArray 3 (0, 0))) (hd : d ≤ L.length) : Ints .i64 V (.slice (some ⟨g, 0, none⟩) (L.take d).length cap) (L.take d) := by
  have hl : (L.take d).length = d := by rw [List.length_take]; omega
  refine ⟨_, cap, rfl, fun hn => ?_⟩
  refine ⟨g, 0, rfl, lt_of_heap hg, fun j hj => ?_⟩
  rw [Nat.zero_add, cell_of hg, List.getElem?_take, if_pos (by omega)]
  have : j < L.length := by omega
  simp [this]
theorem refrun_end {A W wr : World} {b gr gm : Nat} {ov : Value} {I : List Int} {s : St} {rd : Nat} {t : Int} (hC : IsR A wr b gr gm ov I s rd t) (hA : A.heap.size = W.heap.size + 1) (hb1 : Bel W A) (u0 u1 u2 u3 : Value) (d : Nat) (hE : EndAt s.mem d) :
    Ints .i64 ((((wr.setCell ⟨W.heap.size, 0, none⟩ u0).setCell ⟨W.heap.size, 1, none⟩ u1).setCell ⟨W.heap.size, 2, none⟩ u2).setCell ⟨W.heap.size, 3, none⟩ u3).drew ov s.out ∧
    Ints .i64 ((((wr.setCell ⟨W.heap.size, 0, none⟩ u0).setCell ⟨W.heap.size, 1, none⟩ u1).setCell ⟨W.heap.size, 2, none⟩ u2).setCell ⟨W.heap.size, 3, none⟩ u3).drew (.slice (some ⟨gm, 0, none⟩) d s.mem.length) (usedL s.mem) ∧
    Bel W ((((wr.setCell ⟨W.heap.size, 0, none⟩ u0).setCell ⟨W.heap.size, 1, none⟩ u1).setCell ⟨W.heap.size, 2, none⟩ u2).setCell ⟨W.heap.size, 3, none⟩ u3).drew := by
  have hown : ov.ownBlock ≠ some W.heap.size := by
    intro e
    rcases hC.out.2 with ⟨e1, _⟩ | ⟨g, cap, cur, e1, hb, _⟩
    · rw [e1] at e; cases e
    · rw [e1] at e
      injection e with e
      have e' : g = W.heap.size := e
      have hb' : A.heap.size ≤ g := hb
      omega
  have hgm : gm ≠ W.heap.size := by have := hC.lowm; omega
  refine ⟨?_, ?_, ?_⟩
  · exact ints_of_row (row_bel (row_own (row_own (row_own (row_own hC.out hown 0 u0) hown 1 u1) hown 2 u2) hown 3 u3) ((Bel.refl _).drew))
  · have hg := (heap_set_other (w := (((wr.setCell ⟨W.heap.size, 0, none⟩ u0).setCell ⟨W.heap.size, 1, none⟩ u1).setCell ⟨W.heap.size, 2, none⟩ u2)) (o := 3) (u := u3) hgm).trans ((heap_set_other (w := ((wr.setCell ⟨W.heap.size, 0, none⟩ u0).setCell ⟨W.heap.size, 1, none⟩ u1)) (o := 2) (u := u2) hgm).trans ((heap_set_other (w := (wr.setCell ⟨W.heap.size, 0, none⟩ u0)) (o := 1) (u := u1) hgm).trans ((heap_set_other (w := wr) (o := 0) (u := u0) hgm).trans hC.rm)))
    have hi := (ints_take (cap := s.mem.length) hg hE.1).bel ((Bel.refl _).drew)
    rw [List.length_take, Nat.min_eq_left hE.1, used_of hE] at hi
    exact hi
  · exact (((((btrans hb1 hC.bel).setCell (p := ⟨W.heap.size, 0, none⟩) (Nat.le_refl _) u0).setCell (p := ⟨W.heap.size, 1, none⟩) (Nat.le_refl _) u1).setCell (p := ⟨W.heap.size, 2, none⟩) (Nat.le_refl _) u2).setCell (p := ⟨W.heap.size, 3, none⟩) (Nat.le_refl _) u3).drew
/-- A state is stored into its box. -/
theorem IsR.state {A W : World} {b gr gm : Nat} {ov : Value} {I : List Int} {s : St} {rd : Nat} {t : Int} (h : IsR A W b gr gm ov I s rd t) {kz b' : Nat} {nx rg lt : Int} (hz : W.heap[kz]? = some (stB b' nx rg lt)) (hA : A.heap.size ≤ kz) (nx' rg' lt' : Int) :
    IsR A ((((W.setCell ⟨kz, 0, none⟩ (.pointer (some ⟨b, 0, none⟩))).setCell ⟨kz, 1, none⟩ (.int .i64 nx')).setCell ⟨kz, 2, none⟩ (.int .i64 rg')).setCell ⟨kz, 3, none⟩ (.int .i64 lt')) b gr gm ov I s rd t ∧
    ((((W.setCell ⟨kz, 0, none⟩ (.pointer (some ⟨b, 0, none⟩))).setCell ⟨kz, 1, none⟩ (.int .i64 nx')).setCell ⟨kz, 2, none⟩ (.int .i64 rg')).setCell ⟨kz, 3, none⟩ (.int .i64 lt')).heap[kz]? = some (stB b nx' rg' lt') := by
  obtain ⟨h1, z1⟩ := h.far hz hA 0 (.pointer (some ⟨b, 0, none⟩))
  obtain ⟨h2, z2⟩ := h1.far z1 hA 1 (.int .i64 nx')
  obtain ⟨h3, z3⟩ := h2.far z2 hA 2 (.int .i64 rg')
  obtain ⟨h4, z4⟩ := h3.far z3 hA 3 (.int .i64 lt')
  exact ⟨h4, z4⟩
set_option maxRecDepth 20000 in
set_option maxHeartbeats 3000000 in
theorem refrun_any (X : List Ins) (v iv : Value) (z f : Int) (I : List Int) (W : World) (hv : Code W v X) (hi : IntsC W iv I) (hI : ∀ x ∈ I, (Lit.int .i64 x).wf = true) (hX : X.length ≤ 4096) (hz : 0 ≤ z ∧ z ≤ 32000) (hf : f ≤ 1000000) :
    Calls Try.prog 15 #[v, .int .i64 z, iv, .int .i64 f] W fun e W' => ∃ (k : Nat) (ov mv : Value), EndsP X (startP z.toNat I) (f - 3).toNat k ∧ e = .returned (.agg #[.int .i64 (runP X (startP z.toNat I) k).1, .int .i64 (lead f + (k : Int)), ov, mv]) ∧
      Ints .i64 W' ov (runP X (startP z.toNat I) k).2.st.out ∧ Ints .i64 W' mv (usedL (runP X (startP z.toNat I) k).2.st.mem) ∧ Bel W W' := by
  obtain ⟨kz, rfl⟩ := nat_of hz.1
  rw [Int.toNat_natCast]
  obtain ⟨ao, cap, rfl, hcells⟩ := id hv
  obtain ⟨ai, ci, rfl, _⟩ := id hi
  have hn' : ¬ ((4096 : Int) < X.length) := by omega
  have HV := hidm hv
  have HI := hidm hi
  have HII := hidm hI
  clear hv hi hcells hI
  have HOK := hidm (startP_ok kz I)
  have HBe := hidm (begin_any kz (by omega) I (W.alloc (rresB 0 0 (.slice none 0 0) (.slice none 0 0))))
  have hs1 : start kz I = (startP kz I).st := rfl
  rw [hs1] at HBe
  clear hs1
  have hs2 : (startP kz I).next = 1 ∧ (startP kz I).lr = 0 := ⟨rfl, rfl⟩
  have HS2 := hidm hs2
  clear hs2
  generalize startP kz I = p0 at *
  have hn1 := heap_new W (rresB 0 0 (.slice none 0 0) (.slice none 0 0))
  have hb1 := (Bel.refl W).alloc (rresB 0 0 (.slice none 0 0) (.slice none 0 0))
  have hsz1 : (W.alloc (rresB 0 0 (.slice none 0 0) (.slice none 0 0))).heap.size = W.heap.size + 1 := by simp
  have HN1 := hidm hn1
  have HB1 := hidm hb1
  have HSZ := hidm hsz1
  clear hn1 hb1 hsz1
  go_enter Try.func15, Try.ntmps15
  go_wp2_with (first
    | (go_at_call 21; refine (Hid.out HBe).mono ?_; rintro e w1 ⟨b, gr, gm, rfl, hR⟩; have HR1 := hidm hR; clear hR))
  have hV1 := (Hid.out HV).stay (Hid.out HB1)
  have hI1 := (Hid.out HI).bel (Hid.out HB1)
  have h0 := Hid.out HR1
  have hn1 := Hid.out HN1
  have hb1 := Hid.out HB1
  have hsz1 := Hid.out HSZ
  clear HV HI HB1 HR1 HN1 HSZ HBe
  generalize W.alloc (rresB 0 0 (.slice none 0 0) (.slice none 0 0)) = A at *
  have hlow : A.heap.size ≤ w1.heap.size := h0.bel.size
  go_loopw [10] (fun n wr => ∃ (k rd : Nat) (ov : Value) (nx rg lt : Int), n = .int .i64 (k : Int) ∧ IsR A wr b gr gm ov I (runP X p0 k).2.st rd (runP X p0 k).1 ∧ wr.heap[w1.heap.size]? = some (stB b nx rg lt) ∧ ((runP X p0 k).1 = 0 → nx = (runP X p0 k).2.next ∧ rg = (runP X p0 k).2.lr ∧ ((runP X p0 k).2.lr ≠ 0 → lt = (runP X p0 k).2.lv)) ∧ rd ≤ k ∧ (∀ j, j < k → (runP X p0 j).1 = 0) ∧ k ≤ (f - 3).toNat) (fun n _ => (f - 3).toNat - (intOf n).toNat)
  case atStart =>
    refine ⟨0, 0, _, 1, 0, 0, rfl, h0.stay ((Bel.refl w1).alloc _), heap_new w1 (stB b 1 0 0), fun _ => ⟨(Hid.out HS2).1.symm, (Hid.out HS2).2.symm, fun q => absurd (Hid.out HS2).2 q⟩, Nat.le_refl _, fun j hj => absurd hj (Nat.not_lt_zero j), Nat.zero_le _⟩
  case round =>
    obtain ⟨k, rd, ov, nx, rg, lt, rfl, hM, hzb, hst, hrd, hall, hk⟩ := hrel
    rename World => wr
    clear h0
    by_cases hgo : (runP X p0 k).1 = 0 ∧ (k : Int) + 3 < f
    · obtain ⟨ht, hkf⟩ := hgo
      have hall2 : ∀ j, j < k + 1 → (runP X p0 j).1 = 0 := fun j hj => by
        rcases Nat.lt_or_ge j k with h | h
        · exact hall j h
        · obtain rfl : j = k := by omega
          exact ht
      have hsucc := runP_succ ht
      obtain ⟨e1, e2, e3⟩ := hst ht
      rw [ht] at hM
      have c5 := (refB_cells hM.box).2.2.2.2.2
      obtain ⟨z0, z1, z2, z3⟩ := stB_cells hzb
      have HSt := hidm (qstep_any hM (ok_runP (Hid.out HOK) hX k) e1 e2 e3 X _ ai ci hV1 hI1 (Hid.out HII) (by omega) hX)
      have HA := hidm hall2
      have HSu := hidm hsucc
      have HV1 := hidm hV1
      have HI1 := hidm hI1
      have HZ := hidm hzb
      clear hall hall2 hsucc hM ht hV1 hI1 hst e1 e2 e3 hzb
      go_wp2_with (first
        | (go_at_call 22; refine (Hid.out HSt).mono ?_; rintro e w3 ⟨nx', rg', lt', rfl, ⟨ov', rd', q1, q2⟩, q3, q4⟩; have hzw := stB_kept q4 (Hid.out HZ); obtain ⟨y0, y1, y2, y3⟩ := stB_cells hzw; have fz := stB_fz hzw; have Q1 := hidm (q1.state hzw hlow nx' rg' lt'); have Q3 := hidm q3; clear q1 q3 q4 hzw))
      have hsu := Hid.out HSu
      go_roundw
      case rel =>
        refine ⟨k + 1, rd', ov', nx', rg', lt', by simp, ?_, (Hid.out Q1).2, ?_, by omega, Hid.out HA, by omega⟩
        · rw [hsu]; exact (Hid.out Q1).1
        · rw [hsu]; exact Hid.out Q3
      case measure => simp only [intOf]; omega
    · have HE : Hid (EndsP X p0 (f - 3).toNat k) := hidm ⟨hk, hall, by
        rcases Int.lt_or_le ((k : Int) + 3) f with h | h
        · exact .inl (fun e => hgo ⟨e, h⟩)
        · exact .inr (by omega)⟩
      have hpos : (runP X p0 k).1 ≠ 0 → 0 < k := run_pos
      obtain ⟨⟨t, st⟩, hrk⟩ : ∃ q, runP X p0 k = q := ⟨_, rfl⟩
      rw [hrk] at hM hgo hpos
      have HRk := hidm hrk
      dsimp only at hM hgo hpos
      clear hall hrk hst hV1 hI1
      obtain ⟨c0, c1, c2, c3, c4, c5⟩ := refB_cells hM.box
      obtain ⟨z0, z1, z2, z3⟩ := stB_cells hzb
      have hr0 := (hM.bel.out.block W.heap.size (by omega)).trans hn1
      obtain ⟨i0, i1, i2, i3⟩ := rresB_cells hr0
      have g0 := frozen_of hr0
      obtain ⟨ao2, cap2, hov⟩ := row_slice hM.out
      subst hov
      have HU := hidm (fun w (hw : Bel wr w) => refUsed_some gm st.st.mem.length st.st.mem w (Nat.le_refl _) (fun j hj => (hM.stay hw).memAt j hj) hM.lenm)
      have hbn : b ≠ W.heap.size := by have := hM.low; omega
      have hbn' := hbn.symm
      have hzn : w1.heap.size ≠ W.heap.size := by omega
      have hzn' := hzn.symm
      have HC := hidm hM
      have hcase : (t = 0 ∧ f ≤ (k : Int) + 3 ∧ 0 ≤ f ∧ lead f + k = f) ∨ (t = 0 ∧ f ≤ (k : Int) + 3 ∧ f < 0 ∧ lead f + k = 0) ∨ (¬ t = 0 ∧ True ∧ True ∧ lead f + k = (k : Int) + 3) := by
        by_cases h : t = 0
        · have h2 : f ≤ (k : Int) + 3 := by omega
          rcases Int.lt_or_le f 0 with h3 | h3
          · exact .inr (.inl ⟨h, h2, h3, by unfold lead; omega⟩)
          · exact .inl ⟨h, h2, h3, by unfold lead; omega⟩
        · have := hpos h
          exact .inr (.inr ⟨h, trivial, trivial, by unfold lead; omega⟩)
      clear hgo hM hr0 hzb hpos
      rcases hcase with ⟨ht, hkf, hf0, hl⟩ | ⟨ht, hkf, hf0, hl⟩ | ⟨ht, hkf, hf0, hl⟩
      all_goals
        first
        | (have ht' : (t == 0) = true := by simpa using ht)
        | (have ht' : (t == 0) = false := by simpa using ht)
        clear ht
        have HL := hidm hl
        clear hl
        go_wp2_with fail
        go_region_held3 (fun w' => w'.cell? ⟨w1.heap.size, 0, none⟩ = some (.pointer (some ⟨b, 0, none⟩)) ∧ w'.cell? ⟨b, 5, none⟩ = some (.int .i64 t) ∧ w'.cell? ⟨b, 4, none⟩ = some (.slice ao2 st.st.out.length cap2) ∧ w'.cell? ⟨b, 1, none⟩ = some (.slice (some ⟨gm, 0, none⟩) st.st.mem.length st.st.mem.length)) (go_keep) (first
          | (go_at_call 23; refine (Hid.out HU _ ((Bel.refl wr).drew)).mono ?_; rintro e w3 ⟨d, rfl, hE, rfl⟩; have HEd := hidm hE; clear hE))
        go_wp2_with fail
      · skip
        obtain ⟨r1, r2, r3⟩ := refrun_end (Hid.out HC) hsz1 hb1 (.int .i64 t) (.int .i64 f) (.slice ao2 st.st.out.length cap2) (.slice (some ⟨gm, 0, none⟩) d st.st.mem.length) d (Hid.out HEd)
        refine bodyPost_ret (v := .agg #[.int .i64 t, .int .i64 f, .slice ao2 st.st.out.length cap2, .slice (some ⟨gm, 0, none⟩) d st.st.mem.length]) (by simp [results, Try.results15, go_sem, i0, i1, i2, i3]) rfl ⟨k, .slice ao2 st.st.out.length cap2, .slice (some ⟨gm, 0, none⟩) d st.st.mem.length, Hid.out HE, ?_, ?_, ?_, r3⟩
        · rw [Hid.out HRk, Hid.out HL]
        · rw [Hid.out HRk]; exact r1
        · rw [Hid.out HRk]; exact r2
      · skip
        obtain ⟨r1, r2, r3⟩ := refrun_end (Hid.out HC) hsz1 hb1 (.int .i64 t) (.int .i64 0) (.slice ao2 st.st.out.length cap2) (.slice (some ⟨gm, 0, none⟩) d st.st.mem.length) d (Hid.out HEd)
        refine bodyPost_ret (v := .agg #[.int .i64 t, .int .i64 0, .slice ao2 st.st.out.length cap2, .slice (some ⟨gm, 0, none⟩) d st.st.mem.length]) (by simp [results, Try.results15, go_sem, i0, i1, i2, i3]) rfl ⟨k, .slice ao2 st.st.out.length cap2, .slice (some ⟨gm, 0, none⟩) d st.st.mem.length, Hid.out HE, ?_, ?_, ?_, r3⟩
        · rw [Hid.out HRk, Hid.out HL]
        · rw [Hid.out HRk]; exact r1
        · rw [Hid.out HRk]; exact r2
      · skip
        obtain ⟨r1, r2, r3⟩ := refrun_end (Hid.out HC) hsz1 hb1 (.int .i64 t) (.int .i64 ((k : Int) + 3)) (.slice ao2 st.st.out.length cap2) (.slice (some ⟨gm, 0, none⟩) d st.st.mem.length) d (Hid.out HEd)
        refine bodyPost_ret (v := .agg #[.int .i64 t, .int .i64 ((k : Int) + 3), .slice ao2 st.st.out.length cap2, .slice (some ⟨gm, 0, none⟩) d st.st.mem.length]) (by simp [results, Try.results15, go_sem, i0, i1, i2, i3]) rfl ⟨k, .slice ao2 st.st.out.length cap2, .slice (some ⟨gm, 0, none⟩) d st.st.mem.length, Hid.out HE, ?_, ?_, ?_, r3⟩
        · rw [Hid.out HRk, Hid.out HL]
        · rw [Hid.out HRk]; exact r1
        · rw [Hid.out HRk]; exact r2
theorem refrun_said (X : List Ins) (v iv : Value) (z f : Int) (I : List Int) (W : World) (hv : Code W v X) (hi : IntsC W iv I) (hI : ∀ x ∈ I, (Lit.int .i64 x).wf = true) (hX : X.length ≤ 4096) (hf : f ≤ 1000000) :
    Calls Try.prog 15 #[v, .int .i64 z, iv, .int .i64 f] W fun e W' => ∃ (t s : Int) (O M : List Int) (ao : Option Addr) (ca : Nat) (am : Option Addr) (cm : Nat), SaidP X z I f t s O M ∧
      e = .returned (.agg #[.int .i64 t, .int .i64 s, .slice ao O.length ca, .slice am M.length cm]) ∧ Ints .i64 W' (.slice ao O.length ca) O ∧ Ints .i64 W' (.slice am M.length cm) M ∧ Bel W W' := by
  by_cases hz : z < 0 ∨ 32000 < z
  · obtain ⟨ao, cap, rfl, _⟩ := id hv
    refine (refrun_badmem _ iv ao X.length cap rfl z f W hX hz).mono ?_
    rintro e W' ⟨rfl, hB⟩
    exact ⟨0, 0, [], [], none, 0, none, 0, by unfold SaidP; rw [if_pos hz]; exact ⟨rfl, rfl, rfl, rfl⟩, rfl, ints_nil W', ints_nil W', hB⟩
  · refine (refrun_any X v iv z f I W hv hi hI hX (by omega) hf).mono ?_
    rintro e W' ⟨k, ov, mv, hE, rfl, ho, hm, hB⟩
    obtain ⟨ao, ca, rfl, _⟩ := id ho
    obtain ⟨am, cm, rfl, _⟩ := id hm
    exact ⟨_, _, _, _, ao, ca, am, cm, by unfold SaidP; rw [if_neg hz]; exact ⟨k, hE, rfl, rfl, rfl, rfl⟩, rfl, ho, hm, hB⟩
theorem psaid_one {X : List Ins} {z : Int} {I : List Int} {f t t' s s' : Int} {O M O' M' : List Int} (h : SaidP X z I f t s O M) (h' : SaidP X z I f t' s' O' M') : t' = t ∧ s' = s ∧ O' = O ∧ M' = M := by
  unfold SaidP at h h'
  by_cases hz : z < 0 ∨ 32000 < z
  · rw [if_pos hz] at h h'
    obtain ⟨rfl, rfl, rfl, rfl⟩ := h
    obtain ⟨rfl, rfl, rfl, rfl⟩ := h'
    exact ⟨rfl, rfl, rfl, rfl⟩
  · rw [if_neg hz] at h h'
    obtain ⟨k, hE, rfl, rfl, rfl, rfl⟩ := h
    obtain ⟨k', hE', rfl, rfl, rfl, rfl⟩ := h'
    obtain rfl := ends_oneP hE' hE
    exact ⟨rfl, rfl, rfl, rfl⟩
end Go.Proofs.Ythkhlkcdhalkfaa
