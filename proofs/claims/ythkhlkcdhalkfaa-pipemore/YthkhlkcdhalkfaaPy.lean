/-
  What a run of the machine of five stages tells; what follows for two runs; the statements' fixed answer.
-/
import Derived.Test.YthkhlkcdhalkfaaPx
import Derived.Test.YthkhlkcdhalkfaaEq8
namespace Go.Proofs.Ythkhlkcdhalkfaa
set_option maxRecDepth 20000
set_option linter.unusedVariables false
open Go.ChangeShapes Go.WideShapes Go.ChangeAt Go.RowKit

/-- A run of X tells this. -/
def SaidP (X : List Ins) (z : Int) (I : List Int) (f t s : Int) (O M : List Int) : Prop :=
  if z < 0 ∨ 32000 < z then t = 0 ∧ s = 0 ∧ O = [] ∧ M = []
  else ∃ k, EndsP X (startP z.toNat I) (f - 3).toNat k ∧ t = (runP X (startP z.toNat I) k).1 ∧ s = lead f + k ∧ O = (runP X (startP z.toNat I) k).2.st.out ∧ M = usedL (runP X (startP z.toNat I) k).2.st.mem
theorem prun_said (X : List Ins) (v iv : Value) (z f : Int) (I : List Int) (W : World) (hv : Code W v X) (hi : IntsC W iv I) (hX : X.length ≤ 4096) (hf : f ≤ 1000000) :
    Calls Try.prog 14 #[v, .int .i64 z, iv, .int .i64 f] W fun e W' => ∃ (t s : Int) (O M : List Int) (ao : Option Addr) (ca : Nat) (am : Option Addr) (cm : Nat), SaidP X z I f t s O M ∧
      e = .returned (.agg #[.int .i64 t, .int .i64 s, .slice ao O.length ca, .slice am M.length cm]) ∧ Ints .i64 W' (.slice ao O.length ca) O ∧ Ints .i64 W' (.slice am M.length cm) M ∧ Bel W W' ∧ O.length ≤ 10000 ∧ M.length ≤ 32000 ∧ 0 ≤ s ∧ s ≤ 1000010 ∧ Fr W (.slice ao O.length ca) ∧ Fr W (.slice am M.length cm) := by
  by_cases hz : z < 0 ∨ 32000 < z
  · refine (prun_badmem X v iv z f W hz).mono ?_
    rintro e W' ⟨rfl, hB⟩
    exact ⟨0, 0, [], [], none, 0, none, 0, by unfold SaidP; rw [if_pos hz]; exact ⟨rfl, rfl, rfl, rfl⟩, rfl, ints_nil W', ints_nil W', hB, by simp, by simp, by omega, by omega, fun g hg => (by cases hg), fun g hg => (by cases hg)⟩
  · refine (prun_any X v iv z f I W hv hi hX (by omega) hf).mono ?_
    rintro e W' ⟨k, ov, mv, hE, rfl, ho, hm, hB, b1, b2, fr1, fr2⟩
    have ho' := ho
    have hm' := hm
    obtain ⟨ao, ca, rfl, _⟩ := ho'
    obtain ⟨am, cm, rfl, _⟩ := hm'
    have := used_len (runP X (startP z.toNat I) k).2.st.mem
    have hk := hE.1
    refine ⟨_, _, _, _, ao, ca, am, cm, by unfold SaidP; rw [if_neg hz]; exact ⟨k, hE, rfl, rfl, rfl, rfl⟩, rfl, ho, hm, hB, b1, by omega, ?_, ?_, fr1, fr2⟩
    · unfold lead; omega
    · unfold lead; omega
/-- A store in a block that is none of the list's. -/
theorem ints_set {W : World} {ao : Option Addr} {n c : Nat} {X : List Int} (h : Ints .i64 W (.slice ao n c) X) (k j : Nat) (u : Value) (hk : (Value.slice ao n c).ownBlock ≠ some k) : Ints .i64 (W.setCell ⟨k, j, none⟩ u) (.slice ao n c) X := by
  obtain ⟨ao', cap, e, r⟩ := h
  injection e with e1 e2 e3
  subst e1 e2 e3
  refine ⟨ao, c, rfl, fun hn => ?_⟩
  obtain ⟨b, o, rfl, hb, hc⟩ := r hn
  refine ⟨b, o, rfl, by rw [size_set]; exact hb, fun i hi => ?_⟩
  rw [← hc i hi]
  unfold World.cell?
  rw [heap_set_other (fun e => hk (by rw [← e]; rfl))]
theorem ints_low {W : World} {ao : Option Addr} {n c : Nat} {X : List Int} (h : Ints .i64 W (.slice ao n c) X) (hn : 0 < X.length) : ∃ g, (Value.slice ao n c).ownBlock = some g ∧ g < W.heap.size := by
  obtain ⟨ao', cap, e, r⟩ := h
  injection e with e1 e2 e3
  subst e1
  obtain ⟨b, o, rfl, hb, _⟩ := r hn
  exact ⟨b, rfl, hb⟩
/-- A list of an elder world, a store in a block that came later. -/
theorem ints_set_low {V W : World} {ao : Option Addr} {n c : Nat} {X : List Int} (h0 : Ints .i64 V (.slice ao n c) X) (h : Ints .i64 W (.slice ao n c) X) (k j : Nat) (u : Value) (hk : V.heap.size ≤ k) : Ints .i64 (W.setCell ⟨k, j, none⟩ u) (.slice ao n c) X := by
  rcases Nat.eq_zero_or_pos X.length with h1 | h1
  · obtain ⟨ao', cap, e, r⟩ := h
    exact ⟨ao', cap, e, fun hn => absurd hn (by omega)⟩
  · obtain ⟨g, hg, hl⟩ := ints_low h0 h1
    refine ints_set h k j u (fun e => ?_)
    rw [hg] at e
    injection e with e
    omega
theorem lead_hi {f : Int} (h : 0 < (f - 3).toNat) : lead f = 3 := by unfold lead; omega
theorem run_pos {X : List Ins} {p : Pt} {k : Nat} (h : (runP X p k).1 ≠ 0) : 0 < k := by
  cases k with
  | zero => exact absurd rfl h
  | succ k => omega
theorem psaid_room {X : List Ins} {z : Int} {I : List Int} {f t t' s s' : Int} {O M O' M' : List Int} (n : Nat) (h0 : 0 ≤ z) (h1 : z ≤ 300) (hn : n ≤ 300) (h : SaidP X z I f t s O M) (h' : SaidP X (z + n) I f t' s' O' M') (ht : t ≠ 3) : t' = t ∧ s' = s ∧ O' = O ∧ M' = M := by
  unfold SaidP at h h'
  rw [if_neg (by omega)] at h h'
  obtain ⟨k, hE, rfl, rfl, rfl, rfl⟩ := h
  obtain ⟨k', hE', rfl, rfl, rfl, rfl⟩ := h'
  have e : (z + n).toNat = z.toNat + n := by omega
  rw [e] at hE' ⊢
  obtain ⟨q1, q2, q3⟩ := besideP (s := startP z.toNat I) (s' := startP (z.toNat + n) I) (fun u u' => u' = chgR n u) 3 (by decide) (by simp [startP, start, chgR, List.replicate_append_replicate]) (room_stepP X n) hE ht
  obtain rfl := ends_oneP hE' q1
  exact ⟨q2, rfl, by rw [q3]; rfl, by rw [q3]; exact used_more _ _⟩
theorem psaid_input {X : List Ins} {z : Int} {I N : List Int} {f t t' s s' : Int} {O M O' M' : List Int} (h : SaidP X z I f t s O M) (h' : SaidP X z (I ++ N) f t' s' O' M') (ht : t ≠ 6) : t' = t ∧ s' = s ∧ O' = O ∧ M' = M := by
  unfold SaidP at h h'
  by_cases hz : z < 0 ∨ 32000 < z
  · rw [if_pos hz] at h h'
    obtain ⟨rfl, rfl, rfl, rfl⟩ := h
    obtain ⟨rfl, rfl, rfl, rfl⟩ := h'
    exact ⟨rfl, rfl, rfl, rfl⟩
  · rw [if_neg hz] at h h'
    obtain ⟨k, hE, rfl, rfl, rfl, rfl⟩ := h
    obtain ⟨k', hE', rfl, rfl, rfl, rfl⟩ := h'
    obtain ⟨q1, q2, q3⟩ := besideP (X := X) (X' := X) (s := startP z.toNat I) (s' := startP z.toNat (I ++ N)) (fun u u' => u' = chgI N u) 6 (by decide) rfl (more_stepP X N) hE ht
    obtain rfl := ends_oneP hE' q1
    exact ⟨q2, rfl, by rw [q3]; rfl, by rw [q3]; rfl⟩
theorem psaid_more {X : List Ins} {z : Int} {I : List Int} {f g t t' s s' : Int} {O M O' M' : List Int} (hfg : f ≤ g) (h : SaidP X z I f t s O M) (h' : SaidP X z I g t' s' O' M') :
    (t ≠ 0 → t' = t ∧ s' = s ∧ O' = O ∧ M' = M) ∧ (t = 0 → O <+: O') := by
  unfold SaidP at h h'
  by_cases hz : z < 0 ∨ 32000 < z
  · rw [if_pos hz] at h h'
    obtain ⟨rfl, rfl, rfl, rfl⟩ := h
    obtain ⟨rfl, rfl, rfl, rfl⟩ := h'
    exact ⟨fun h => absurd rfl h, fun _ => List.prefix_refl _⟩
  · rw [if_neg hz] at h h'
    obtain ⟨k, hE, rfl, rfl, rfl, rfl⟩ := h
    obtain ⟨k', hE', rfl, rfl, rfl, rfl⟩ := h'
    obtain ⟨m1, m2⟩ := ends_moreP hE hE' (by omega)
    refine ⟨fun h => ?_, fun h => ?_⟩
    · obtain rfl := m1 h
      have hp := run_pos h
      have l1 := hE.1
      rw [lead_hi (f := f) (by omega), lead_hi (f := g) (by omega)]
      exact ⟨rfl, rfl, rfl, rfl⟩
    · obtain ⟨e1, e2⟩ := m2 h
      have := runP_out_mono X (startP z.toNat I) k (k' - k)
      rwa [show k + (k' - k) = k' by omega] at this
theorem used_zero (n : Nat) : usedL (List.replicate n 0) = [] := by
  have := used_more [] n
  rw [List.nil_append] at this
  rw [this]
  unfold usedL
  simp
/-- Ahead of the fourth cycle nothing acts. -/
theorem psaid_low {X : List Ins} {z : Int} {I : List Int} {f t s : Int} {O M : List Int} (hz : 0 ≤ z ∧ z ≤ 32000) (hf : f ≤ 3) (h : SaidP X z I f t s O M) : t = 0 ∧ s = max f 0 ∧ O = [] ∧ M = [] := by
  unfold SaidP at h
  rw [if_neg (by omega)] at h
  obtain ⟨k, hE, rfl, rfl, rfl, rfl⟩ := h
  obtain rfl : k = 0 := by have := hE.1; omega
  exact ⟨rfl, by unfold lead; omega, rfl, used_zero _⟩
theorem psaid_all {X : List Ins} {z : Int} {I : List Int} {f t s : Int} {O M : List Int} (hz : 0 ≤ z ∧ z ≤ 32000) (h : SaidP X z I f t s O M) : (t = 0 → s = max f 0) ∧ (t ≠ 0 → 4 ≤ s ∧ s ≤ f) := by
  unfold SaidP at h
  rw [if_neg (by omega)] at h
  obtain ⟨k, hE, rfl, rfl, rfl, rfl⟩ := h
  refine ⟨fun ht => ?_, fun ht => ?_⟩
  · rcases hE.2.2 with q | q
    · exact absurd ht q
    · rw [q]; unfold lead; omega
  · have hp := run_pos ht
    have l1 := hE.1
    rw [lead_hi (f := f) (by omega)]
    omega
/-- A run that stops behind so many. -/
theorem psaid_at {X : List Ins} {z : Int} {I : List Int} {f t s : Int} {O M : List Int} (n : Nat) (hz : 0 ≤ z ∧ z ≤ 32000) (hn : n ≤ (f - 3).toNat) (h0 : 0 < n) (hall : ∀ j, j < n → (runP X (startP z.toNat I) j).1 = 0) (hst : (runP X (startP z.toNat I) n).1 ≠ 0) (h : SaidP X z I f t s O M) :
    t = (runP X (startP z.toNat I) n).1 ∧ s = 3 + n ∧ O = (runP X (startP z.toNat I) n).2.st.out ∧ M = usedL (runP X (startP z.toNat I) n).2.st.mem := by
  unfold SaidP at h
  rw [if_neg (by omega)] at h
  obtain ⟨k, hE, rfl, rfl, rfl, rfl⟩ := h
  obtain rfl := ends_oneP hE ⟨hn, hall, .inl hst⟩
  rw [lead_hi (f := f) (by omega)]
  exact ⟨rfl, rfl, rfl, rfl⟩
def awkX : List Ins := [⟨10, 4, 0, 0, 7⟩, ⟨20, 0, 0, 0, 2⟩, ⟨20, 0, 0, 0, 0⟩]
theorem awk_said {t s : Int} {O M : List Int} (h : SaidP awkX 0 [] 20 t s O M) : t = 1 ∧ s = 6 ∧ O = [7] := by
  obtain ⟨rfl, rfl, rfl, _⟩ := psaid_at 3 (by omega) (by decide) (by omega) (fun j hj => by
    obtain rfl | rfl | rfl : j = 0 ∨ j = 1 ∨ j = 2 := by omega
    · rfl
    · decide +kernel
    · decide +kernel) (by decide +kernel) h
  exact ⟨by decide +kernel, by decide, by decide +kernel⟩
theorem run_awake (v : Value) (W : World) (hv : Code W v awkX) :
    Calls Try.prog 14 #[v, .int .i64 0, .slice none 0 0, .int .i64 20] W fun e W' => ∃ (b o ca : Nat) (am : Option Addr) (nm cm : Nat), e = .returned (.agg #[.int .i64 1, .int .i64 6, .slice (some ⟨b, o, none⟩) 1 ca, .slice am nm cm]) ∧ W'.cell? ⟨b, o, none⟩ = some (.int .i64 7) ∧ b < W'.heap.size ∧ Bel W W' := by
  refine (prun_said awkX v (.slice none 0 0) 0 20 [] W hv (intsC_nil W) (by decide) (by omega)).mono ?_
  rintro e W' ⟨t, s, O, M, ao, ca, am, cm, hS, rfl, ho, hm, hB, _, _, _, _, _, _⟩
  obtain ⟨rfl, rfl, rfl⟩ := awk_said hS
  obtain ⟨ao', ca', e, hc⟩ := ho
  obtain ⟨b, o, rfl, hb, hcell⟩ := hc (by decide)
  injection e with e4 e5 e6
  subst e4
  exact ⟨b, o, ca, am, _, cm, rfl, hcell 0 (by decide), hb, hB⟩
set_option maxHeartbeats 1000000 in
theorem awake_any (w : World) : Calls Try.prog 12 #[] w fun e w' => e = .returned (.bool true) ∧ Bel w w' := by
  go_enter Try.func12, Try.ntmps12
  go_wp2_with (first
    | (go_at_call 14; refine (run_awake _ _ (code_lit (X := awkX) (heap_new w _) 3 3 rfl)).mono ?_; rintro e w2 ⟨b, o, ca, am, nm, cm, rfl, hc, hb, hB⟩; obtain ⟨hc2, hf2⟩ := bcell hB))
  go_ret
  exact ⟨rfl, (btrans ((Bel.refl w).alloc _) hB).alloc _⟩
end Go.Proofs.Ythkhlkcdhalkfaa
