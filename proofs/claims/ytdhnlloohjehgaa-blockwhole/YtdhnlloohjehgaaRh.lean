/-
  The contract of the reference's Head.
-/
import Derived.Test.YtdhnlloohjehgaaHm
import Derived.Test.YtdhnlloohjehgaaRef3
namespace Go.Proofs.Ytdhnlloohjehgaa
set_option maxRecDepth 20000
set_option linter.unusedVariables false
open Go.ChangeShapes Go.WideShapes Go.ChangeAt Go.RowKit

/-- Goes one of the first k to a place? -/
def toB (X : List Ins) (k : Nat) (n : Int) : Prop := ∃ j, j < k ∧ (X.getD j Ins.zero).names = true ∧ (X.getD j Ins.zero).tgt j = n
theorem hdB_zero (X : List Ins) : hdB X 0 = true := (hdB_iff X 0).2 (.inl rfl)
theorem hdB_goes {X : List Ins} {n : Nat} (h0 : 0 < n) (h : (X.getD (n - 1) Ins.zero).goes = true) : hdB X n = true := (hdB_iff X n).2 (.inr (.inl ⟨h0, h⟩))
theorem hdB_to {X : List Ins} {n k : Nat} (hk : k < X.length) (h1 : (X.getD k Ins.zero).names = true) (h2 : (X.getD k Ins.zero).tgt k = n) : hdB X n = true := (hdB_iff X n).2 (.inr (.inr ⟨k, hk, h1, h2⟩))
theorem hdB_no {X : List Ins} {n : Nat} (h0 : 0 < n) (h : (X.getD (n - 1) Ins.zero).goes = false) (h2 : ¬ toB X X.length n) : hdB X n = false := by
  rw [Bool.eq_false_iff]
  intro e
  rcases (hdB_iff X n).1 e with q | ⟨_, q⟩ | q
  · omega
  · rw [h] at q; cases q
  · exact h2 q
theorem toB_step {X : List Ins} {k : Nat} {n : Int} (h : ¬ toB X k n) (hk : (X.getD k Ins.zero).names = true → (X.getD k Ins.zero).tgt k ≠ n) : ¬ toB X (k + 1) n := by
  rintro ⟨j, hj, h1, h2⟩
  by_cases e : j = k
  · subst e; exact hk h1 h2
  · exact h ⟨j, by omega, h1, h2⟩

set_option maxHeartbeats 2000000 in
theorem refHead_any (X : List Ins) (v : Value) (n : Nat) (w : World) (hl : X.length ≤ 4096) (hn : n < X.length) (hv : Code w v X) :
    Calls Try.prog 19 #[v, .int .i64 n] w fun e w' => e = .returned (.bool (hdB X n)) ∧ Bel w w' := by
  obtain ⟨ao, cap, rfl, hc⟩ := hv
  by_cases h0 : n = 0
  · subst h0
    have HF := hidm (hdB_zero X)
    clear hc
    go_enter Try.func19, Try.ntmps19
    go_wp2
    go_ret
    exact ⟨ret_bool HF.out.symm, Bel.refl w⟩
  · obtain ⟨b, o, rfl, hbw, hca⟩ := hc (by omega)
    clear hc
    obtain ⟨m, rfl⟩ : ∃ m, n = m + 1 := ⟨n - 1, by omega⟩
    obtain ⟨a0, a1, a2, a3, a4⟩ := hca m (by omega)
    have HG : Hid ((X.getD m Ins.zero).goes = true → hdB X (m + 1) = true) := fun h => hdB_goes (by omega) h
    have HN : Hid ((X.getD m Ins.zero).goes = false → ¬ toB X X.length (m + 1 : Nat) → hdB X (m + 1) = false) := fun h k => hdB_no (by omega) h k
    have HCA := hidm hca
    clear hca
    generalize X.getD m Ins.zero = x at a0 a1 a2 a3 a4 HG HN
    have hne : ((m : Int) + 1 == 0) = false := beq_eq_false_iff_ne.2 (by omega)
    cases hg : goesB x.o x.a x.b x.c x.i with
    | true =>
      have HF := hidm (HG.out hg)
      clear HG HN HCA
      go_enter Try.func19, Try.ntmps19
      go_wp2_with (go_at_call 20; refine (refGoes_any _ _ _ _ _ _).mono ?_; rw [hg]; rintro e w1 ⟨rfl, g1⟩)
      go_ret
      exact ⟨ret_bool HF.out.symm, g1⟩
    | false =>
      have HN' := hidm (HN.out hg)
      clear HG HN
      go_enter Try.func19, Try.ntmps19
      go_wp2_with (go_at_call 20; refine (refGoes_any _ _ _ _ _ _).mono ?_; rw [hg]; rintro e w1 ⟨rfl, g1⟩)
      clear a0 a1 a2 a3 a4 hg
      go_loopw [5] (fun i wr => ∃ k : Nat, k ≤ X.length ∧ i = .int .i64 k ∧ Hid (¬ toB X k (m + 1 : Nat)) ∧ Bel w wr) (fun i _ => X.length - (intOf i).toNat)
      case atStart => exact ⟨0, Nat.zero_le _, rfl, fun ⟨j, hj, _⟩ => absurd hj (Nat.not_lt_zero _), g1⟩
      case round =>
        obtain ⟨k, hk, rfl, hno, hb⟩ := hrel
        rename World => wr
        have hz := hb.size
        by_cases hlt : k < X.length
        · obtain ⟨a0, a1, a2, a3, a4⟩ := HCA.out k hlt
          rw [← (bcell hb).1 _ _ hbw] at a0 a1 a2 a3 a4
          have HY : Hid ((X.getD k Ins.zero).names = true → (X.getD k Ins.zero).tgt k = (m + 1 : Nat) → hdB X (m + 1) = true) := fun h h' => hdB_to hlt h h'
          have HS : Hid (((X.getD k Ins.zero).names = true → (X.getD k Ins.zero).tgt k ≠ (m + 1 : Nat)) → ¬ toB X (k + 1) (m + 1 : Nat)) := fun h => toB_step hno.out h
          generalize X.getD k Ins.zero = y at a0 a1 a2 a3 a4 HY HS
          clear HCA hno
          have hbd := tgt_bd y.o y.a y.b y.c y.i k (by omega)
          cases hn' : namesB y.o y.a y.b y.c y.i with
          | false =>
            have HF := hidm (HS.out (fun h => by rw [show y.names = false from hn'] at h; cases h))
            clear HY HS
            go_wp2_with (go_at_call 12; refine (refTarget_any _ _ _ _ _ _ (by omega) _).mono ?_; rw [hn']; rintro e w2 ⟨rfl, g2⟩)
            go_roundw
            case rel => exact ⟨k + 1, by omega, by go_num, HF, btrans hb g2⟩
            case measure => simp [intOf]; omega
          | true =>
            have e6 : Hid (tgtI y.o y.a y.b y.c y.i k = y.tgt k) := rfl
            generalize y.tgt k = t at HY HS e6
            by_cases ht : t = (m : Int) + 1
            · have HF := hidm (HY.out hn' (by rw [ht]; rfl))
              have ht' : (t == (m : Int) + 1) = true := by simpa using ht
              clear HY HS
              have HH := hidm ht
              clear ht
              go_wp2_with (go_at_call 12; refine (refTarget_any _ _ _ _ _ _ (by omega) _).mono ?_; rw [hn', e6.out]; rintro e w2 ⟨rfl, g2⟩)
              go_ret
              exact ⟨ret_bool HF.out.symm, btrans hb g2⟩
            · have HF := hidm (HS.out (fun _ h => ht (by rw [h]; rfl)))
              have ht' : (t == (m : Int) + 1) = false := beq_eq_false_iff_ne.2 ht
              clear HY HS
              go_wp2_with (go_at_call 12; refine (refTarget_any _ _ _ _ _ _ (by omega) _).mono ?_; rw [hn', e6.out]; rintro e w2 ⟨rfl, g2⟩)
              go_roundw
              case rel => exact ⟨k + 1, by omega, by go_num, HF, btrans hb g2⟩
              case measure => simp [intOf]; omega
        · have HF := hidm (HN'.out (by rw [show X.length = k by omega]; exact hno.out))
          clear HCA
          go_wp2
          go_ret
          exact ⟨ret_bool HF.out.symm, hb⟩
end Go.Proofs.Ytdhnlloohjehgaa
