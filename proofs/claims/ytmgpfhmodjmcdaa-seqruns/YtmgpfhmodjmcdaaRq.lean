/-
  The reference's Run.
-/
import Derived.Test.YtmgpfhmodjmcdaaRs
import Derived.Test.YtmgpfhmodjmcdaaRb
namespace Go.Proofs.Ytmgpfhmodjmcdaa
set_option maxRecDepth 20000
set_option linter.unusedVariables false
open Go.ChangeShapes Go.WideShapes Go.ChangeAt Go.RowKit

def rresB (t n : Int) (o m : Value) : Obj := .cells #[.int .i64 t, .int .i64 n, o, m] 28
theorem rresB_cells {W : World} {k : Nat} {t n : Int} {o m : Value} (h : W.heap[k]? = some (rresB t n o m)) : W.cell? ⟨k, 0, none⟩ = some (.int .i64 t) ∧ W.cell? ⟨k, 1, none⟩ = some (.int .i64 n) ∧ W.cell? ⟨k, 2, none⟩ = some o ∧ W.cell? ⟨k, 3, none⟩ = some m :=
  ⟨cell_of h 0, cell_of h 1, cell_of h 2, cell_of h 3⟩
theorem refrun_badmem (v iv : Value) (ao : Option Addr) (n c : Nat) (hv : v = .slice ao n c) (z f : Int) (W : World) (hn : n ≤ 4096) (hz : z < 0 ∨ 32000 < z) :
    Calls Try.prog 17 #[v, .int .i64 z, iv, .int .i64 f] W fun e W' => e = .returned (.agg #[.int .i64 0, .int .i64 0, .slice none 0 0, .slice none 0 0]) ∧ Bel W W' := by
  subst hv
  have hn' : ¬ ((4096 : Int) < n) := by omega
  have hz' : z < 0 ∨ (¬ z < 0 ∧ 32000 < z) := by omega
  rcases hz' with hz1 | ⟨hz1, hz2⟩
  all_goals
    go_enter Try.func17, Try.ntmps17
    go_wp2
    refine bodyPost_ret (v := .agg #[.int .i64 0, .int .i64 0, .slice none 0 0, .slice none 0 0]) (by simp [results, Try.results17, go_sem]) rfl ⟨rfl, ?_⟩
    repeat (first | exact Bel.refl _ | apply Bel.alloc | (refine Bel.setCell ?_ (by simp) _))
theorem ints_take {V : World} {g d cap : Nat} {L : List Int} (hg : V.heap[g]? = some (.cells (L.map (Value.int .i64)).toArray 3 (0, 0))) (hd : d ≤ L.length) : Ints .i64 V (.slice (some ⟨g, 0, none⟩) (L.take d).length cap) (L.take d) := by
  have hl : (L.take d).length = d := by rw [List.length_take]; omega
  refine ⟨_, cap, rfl, fun hn => ?_⟩
  refine ⟨g, 0, rfl, lt_of_heap hg, fun j hj => ?_⟩
  rw [Nat.zero_add, cell_of hg, List.getElem?_take, if_pos (by omega)]
  have : j < L.length := by omega
  simp [this]
theorem refrun_end {A W wr : World} {b gr gm : Nat} {ov : Value} {I : List Int} {s : St} {rd : Nat} {t : Int} (hC : IsR A wr b gr gm ov I s rd t) (hA : A.heap.size = W.heap.size + 1) (hb1 : Bel W A) (u0 u1 u2 u3 : Value) (d : Nat) (hE : EndAt s.mem d) :
    Ints .i64 ((((wr.setCell ⟨W.heap.size, 0, none⟩ u0).setCell ⟨W.heap.size, 1, none⟩ u1).setCell ⟨W.heap.size, 2, none⟩ u2).setCell ⟨W.heap.size, 3, none⟩ u3).drew ov s.out ∧
    Ints .i64 ((((wr.setCell ⟨W.heap.size, 0, none⟩ u0).setCell ⟨W.heap.size, 1, none⟩ u1).setCell ⟨W.heap.size, 2, none⟩ u2).setCell ⟨W.heap.size, 3, none⟩ u3).drew (.slice (some ⟨gm, 0, none⟩) d s.mem.length) (usedL s.mem) ∧
    Bel W ((((wr.setCell ⟨W.heap.size, 0, none⟩ u0).setCell ⟨W.heap.size, 1, none⟩ u1).setCell ⟨W.heap.size, 2, none⟩ u2).setCell ⟨W.heap.size, 3, none⟩ u3).drew := by
  have hown : ov.ownBlock ≠ some W.heap.size := by
    intro e
    rcases hC.out.2 with ⟨e1, _⟩ | ⟨g, cap, cur, e1, hb, _⟩
    · rw [e1] at e; cases e
    · rw [e1] at e
      injection e with e
      have e' : g = W.heap.size := e
      have hb' : A.heap.size ≤ g := hb
      omega
  have hgm : gm ≠ W.heap.size := by have := hC.lowm; omega
  refine ⟨?_, ?_, ?_⟩
  · exact ints_of_row (row_bel (row_own (row_own (row_own (row_own hC.out hown 0 u0) hown 1 u1) hown 2 u2) hown 3 u3) ((Bel.refl _).drew))
  · have hg := (heap_set_other (w := (((wr.setCell ⟨W.heap.size, 0, none⟩ u0).setCell ⟨W.heap.size, 1, none⟩ u1).setCell ⟨W.heap.size, 2, none⟩ u2)) (o := 3) (u := u3) hgm).trans ((heap_set_other (w := ((wr.setCell ⟨W.heap.size, 0, none⟩ u0).setCell ⟨W.heap.size, 1, none⟩ u1)) (o := 2) (u := u2) hgm).trans ((heap_set_other (w := (wr.setCell ⟨W.heap.size, 0, none⟩ u0)) (o := 1) (u := u1) hgm).trans ((heap_set_other (w := wr) (o := 0) (u := u0) hgm).trans hC.rm)))
    have hi := (ints_take (cap := s.mem.length) hg hE.1).bel ((Bel.refl _).drew)
    rw [List.length_take, Nat.min_eq_left hE.1, used_of hE] at hi
    exact hi
  · exact (((((btrans hb1 hC.bel).setCell (p := ⟨W.heap.size, 0, none⟩) (Nat.le_refl _) u0).setCell (p := ⟨W.heap.size, 1, none⟩) (Nat.le_refl _) u1).setCell (p := ⟨W.heap.size, 2, none⟩) (Nat.le_refl _) u2).setCell (p := ⟨W.heap.size, 3, none⟩) (Nat.le_refl _) u3).drew
set_option maxRecDepth 20000 in
set_option maxHeartbeats 3000000 in
theorem refrun_any (X : List Ins) (v iv : Value) (z f : Int) (I : List Int) (W : World) (hv : Code W v X) (hi : IntsC W iv I) (hI : ∀ x ∈ I, (Lit.int .i64 x).wf = true) (hX : X.length ≤ 4096) (hz : 0 ≤ z ∧ z ≤ 32000) (hf : f ≤ 1000000) :
    Calls Try.prog 17 #[v, .int .i64 z, iv, .int .i64 f] W fun e W' => ∃ (k : Nat) (ov mv : Value), Ends X (start z.toNat I) f.toNat k ∧ e = .returned (.agg #[.int .i64 (runK X (start z.toNat I) k).1, .int .i64 (k : Int), ov, mv]) ∧
      Ints .i64 W' ov (runK X (start z.toNat I) k).2.out ∧ Ints .i64 W' mv (usedL (runK X (start z.toNat I) k).2.mem) ∧ Bel W W' := by
  obtain ⟨kz, rfl⟩ := nat_of hz.1
  rw [Int.toNat_natCast]
  obtain ⟨ao, cap, rfl, hcells⟩ := id hv
  obtain ⟨ai, ci, rfl, _⟩ := id hi
  have hn' : ¬ ((4096 : Int) < X.length) := by omega
  have HV := hidm hv
  have HI := hidm hi
  have HII := hidm hI
  clear hv hi hcells hI
  generalize hs0 : start kz I = s0
  have HS0 := hidm hs0
  clear hs0
  have hn1 := heap_new W (rresB 0 0 (.slice none 0 0) (.slice none 0 0))
  have hb1 := (Bel.refl W).alloc (rresB 0 0 (.slice none 0 0) (.slice none 0 0))
  have hsz1 : (W.alloc (rresB 0 0 (.slice none 0 0) (.slice none 0 0))).heap.size = W.heap.size + 1 := by simp
  have HN1 := hidm hn1
  have HB1 := hidm hb1
  have HSZ := hidm hsz1
  clear hn1 hb1 hsz1
  go_enter Try.func17, Try.ntmps17
  go_wp2_with (first
    | (go_at_call 25; refine (begin_any kz (by omega) I (W.alloc (rresB 0 0 (.slice none 0 0) (.slice none 0 0)))).mono ?_; rintro e w1 ⟨b, gr, gm, rfl, hR⟩; have HR1 := hidm hR; clear hR))
  have hV1 := (Hid.out HV).stay (Hid.out HB1)
  have hI1 := (Hid.out HI).bel (Hid.out HB1)
  have h0 := Hid.out HR1
  rw [Hid.out HS0] at h0
  have hn1 := Hid.out HN1
  have hb1 := Hid.out HB1
  have hsz1 := Hid.out HSZ
  clear HV HI HB1 HR1 HS0 HN1 HSZ
  generalize W.alloc (rresB 0 0 (.slice none 0 0) (.slice none 0 0)) = A at *
  go_loopw [10] (fun n wr => ∃ (k rd : Nat) (p : Int) (ov : Value), n = .int .i64 (k : Int) ∧ IsR A wr b gr gm ov I { (runK X s0 k).2 with place := p } rd (runK X s0 k).1 ∧ ((runK X s0 k).1 = 0 → p = (runK X s0 k).2.place) ∧ rd ≤ k ∧ (∀ j, j < k → (runK X s0 j).1 = 0) ∧ k ≤ f.toNat) (fun n _ => f.toNat - (intOf n).toNat)
  case atStart => exact ⟨0, 0, s0.place, _, rfl, h0, fun _ => rfl, Nat.le_refl _, fun j hj => absurd hj (Nat.not_lt_zero j), Nat.zero_le _⟩
  case round =>
    obtain ⟨k, rd, p, ov, rfl, hM, hpl, hrd, hall, hk⟩ := hrel
    rename World => wr
    clear h0
    by_cases hgo : (runK X s0 k).1 = 0 ∧ (k : Int) < f
    · obtain ⟨ht, hkf⟩ := hgo
      have hall2 : ∀ j, j < k + 1 → (runK X s0 j).1 = 0 := fun j hj => by
        rcases Nat.lt_or_ge j k with h | h
        · exact hall j h
        · obtain rfl : j = k := by omega
          exact ht
      have hsucc := runK_succ ht
      obtain rfl := hpl ht
      rw [ht] at hM
      have hM' : IsR A wr b gr gm ov I (runK X s0 k).2 rd 0 := hM
      have c5 := (refB_cells hM'.box).2.2.2.2.2
      have HSt := hidm (rstep_any hM' X _ ai ci hV1 hI1 (Hid.out HII) (by omega) hX)
      have HA := hidm hall2
      have HSu := hidm hsucc
      have HV1 := hidm hV1
      have HI1 := hidm hI1
      clear hall hall2 hsucc hM hM' ht hV1 hI1 hpl
      go_wp2_with (first
        | (go_at_call 26; refine (Hid.out HSt).mono ?_; rintro e w3 ⟨rfl, ⟨ov', rd', p', q1, q2, q3⟩, q4⟩; have Q1 := hidm q1; have Q2 := hidm q2; clear q1 q2 q4))
      have hsu := Hid.out HSu
      go_roundw
      case rel =>
        refine ⟨k + 1, rd', p', ov', by simp, ?_, ?_, by omega, Hid.out HA, by omega⟩
        · rw [hsu]; exact Hid.out Q1
        · rw [hsu]; exact Hid.out Q2
      case measure => simp only [intOf]; omega
    · have HE : Hid (Ends X s0 f.toNat k) := hidm ⟨hk, hall, by
        rcases Int.lt_or_le (k : Int) f with h | h
        · exact .inl (fun e => hgo ⟨e, h⟩)
        · exact .inr (by omega)⟩
      obtain ⟨⟨t, st⟩, hrk⟩ : ∃ q, runK X s0 k = q := ⟨_, rfl⟩
      rw [hrk] at hM hgo
      have HRk := hidm hrk
      dsimp only at hM hgo
      clear hall hrk hpl hV1 hI1
      obtain ⟨c0, c1, c2, c3, c4, c5⟩ := refB_cells hM.box
      dsimp only at c0 c1 c2 c3 c4 c5
      have hr0 := (hM.bel.out.block W.heap.size (by omega)).trans hn1
      obtain ⟨i0, i1, i2, i3⟩ := rresB_cells hr0
      have g0 := frozen_of hr0
      obtain ⟨ao2, cap2, hov⟩ := row_slice hM.out
      dsimp only at hov
      subst hov
      have HU := hidm (fun w (hw : Bel wr w) => refUsed_some gm st.mem.length st.mem w (Nat.le_refl _) (fun j hj => (hM.stay hw).memAt j hj) hM.lenm)
      have hbn : b ≠ W.heap.size := by have := hM.low; omega
      have hbn' := hbn.symm
      have HC := hidm hM
      have HR0 := hidm hr0
      have hcase : (t = 0 ∧ f ≤ k) ∨ ¬ t = 0 := by
        by_cases h : t = 0
        · exact .inl ⟨h, by omega⟩
        · exact .inr h
      clear hgo hM hr0
      rcases hcase with ⟨ht, hkf⟩ | ht
      all_goals
        first
        | (have ht' : (t == 0) = true := by simpa using ht)
        | (have ht' : (t == 0) = false := by simpa using ht)
        clear ht
        go_wp2_with fail
        go_region_held3 (fun w' => w'.cell? ⟨b, 5, none⟩ = some (.int .i64 t) ∧ w'.cell? ⟨b, 4, none⟩ = some (.slice ao2 st.out.length cap2) ∧ w'.cell? ⟨b, 1, none⟩ = some (.slice (some ⟨gm, 0, none⟩) st.mem.length st.mem.length)) (go_keep) (first
          | (go_at_call 27; refine (Hid.out HU _ ((Bel.refl wr).drew)).mono ?_; rintro e w3 ⟨d, rfl, hE, rfl⟩; have HEd := hidm hE; clear hE))
        go_wp2_with fail
        obtain ⟨r1, r2, r3⟩ := refrun_end (Hid.out HC) hsz1 hb1 (.int .i64 t) (.int .i64 (k : Int)) (.slice ao2 st.out.length cap2) (.slice (some ⟨gm, 0, none⟩) d st.mem.length) d (Hid.out HEd)
        refine bodyPost_ret (v := .agg #[.int .i64 t, .int .i64 (k : Int), .slice ao2 st.out.length cap2, .slice (some ⟨gm, 0, none⟩) d st.mem.length]) (by simp [results, Try.results17, go_sem, i0, i1, i2, i3]) rfl ⟨k, .slice ao2 st.out.length cap2, .slice (some ⟨gm, 0, none⟩) d st.mem.length, Hid.out HE, ?_, ?_, ?_, r3⟩
        · rw [Hid.out HRk]
        · rw [Hid.out HRk]; exact r1
        · rw [Hid.out HRk]; exact r2
end Go.Proofs.Ytmgpfhmodjmcdaa
