/-
  What the reference's instructions that act do: its Effect.
-/
import Derived.Test.YtmgpfhmodjmcdaaRm
namespace Go.Proofs.Ytmgpfhmodjmcdaa
set_option maxRecDepth 20000
set_option linter.unusedVariables false
open Go.ChangeShapes Go.WideShapes Go.ChangeAt Go.RowKit

section
variable {A W : World} {b gr gm : Nat} {ov : Value} {I : List Int} {s : St} {rd : Nat} {t : Int}
theorem eff12 (h : IsR A W b gr gm ov I s rd t) (a xb xc i va vb four : Int) (iv : Value) (hb : Wd vb) (hi : -32768 ≤ i ∧ i ≤ 32767) :
    Calls Try.prog 40 #[.pointer (some ⟨b, 0, none⟩), .agg #[.int .i64 12, .int .i64 a, .int .i64 xb, .int .i64 xc, .int .i64 i], .int .i64 va, .int .i64 vb, .int .i64 four, iv] W fun e W' =>
      e = .returned (.tuple #[.int .i64 (if inM s.mem (wrap32 (vb + i)) = true then 0 else 3), .int .i64 (getM s.mem (wrap32 (vb + i)))]) ∧ Bel W W' := by
  obtain ⟨b1, b2⟩ := hb
  have h1 := h.stay ((Bel.refl W).alloc (insB 12 a xb xc i))
  obtain ⟨c0, c1, c2, c3, c4, c5⟩ := refB_cells h1.box
  unfold insB at c1
  have hB : Bel W (W.alloc (insB 12 a xb xc i)) := (Bel.refl W).alloc _
  generalize hat : wrap32 (vb + i) = z
  by_cases hz : inM s.mem z = true
  · rw [if_pos hz]
    obtain ⟨z0, z1⟩ := inM_iff.1 hz
    obtain ⟨k, rfl⟩ := nat_of z0
    have m1 := h1.memAt k (by omega)
    have hg : getM s.mem (k : Int) = s.mem[k]?.getD 0 := by unfold getM; rw [if_pos hz, Int.toNat_natCast]
    rw [hg]
    unfold insB at m1
    generalize s.mem[k]?.getD 0 = x at m1 ⊢
    have HAT := hidm hat
    have HB := hidm hB
    have hk : k < s.mem.length := by omega
    have hk' : (k : Int) < s.mem.length := by omega
    have hk0 : (0 : Int) ≤ (k : Int) := by omega
    clear hg hz h h1 hat c0 c2 c3 c4 c5 hB
    go_enter Try.func40, Try.ntmps40
    go_wp2_with (go_at_call 21; refine (refWrap_any _ _ (by omega) (by omega)).mono ?_; rintro e w' ⟨rfl, rfl⟩; rw [Hid.out HAT])
    go_region_held3 (fun w' => w'.cell? ⟨b, 1, none⟩ = some (.slice (some ⟨gm, 0, none⟩) s.mem.length s.mem.length) ∧ w'.cell? ⟨gm, k, none⟩ = some (.int .i64 x)) (go_keep) (fail)
    go_wp2
    go_ret2
    exact ⟨rfl, (Hid.out HB).drew⟩
  · rw [if_neg hz]
    have hz' : inM s.mem z = false := by simpa using hz
    have hg := get_no hz'
    rw [hg]
    have hzz := mt inM_iff.2 hz
    have hcase : z < 0 ∨ (0 ≤ z ∧ decide (z < (s.mem.length : Int)) = false) := by
      rcases Int.lt_or_le z 0 with q | q
      · exact .inl q
      · exact .inr ⟨q, by simp; omega⟩
    have HAT := hidm hat
    have HB := hidm hB
    clear hg hz hz' hzz h h1 hat c0 c2 c3 c4 c5 hB
    rcases hcase with q | ⟨q, q2⟩
    all_goals
      go_enter Try.func40, Try.ntmps40
      go_wp2_with (go_at_call 21; refine (refWrap_any _ _ (by omega) (by omega)).mono ?_; rintro e w' ⟨rfl, rfl⟩; rw [Hid.out HAT])
      go_ret2
      exact ⟨rfl, Hid.out HB⟩
theorem eff13 (h : IsR A W b gr gm ov I s rd t) (a xb xc i va vb four : Int) (iv : Value) (ha : Wd va) (hb : Wd vb) (hi : -32768 ≤ i ∧ i ≤ 32767) :
    Calls Try.prog 40 #[.pointer (some ⟨b, 0, none⟩), .agg #[.int .i64 13, .int .i64 a, .int .i64 xb, .int .i64 xc, .int .i64 i], .int .i64 va, .int .i64 vb, .int .i64 four, iv] W fun e W' =>
      e = .returned (.tuple #[.int .i64 (if inM s.mem (wrap32 (vb + i)) = true then 0 else 3), .int .i64 0]) ∧ IsR A W' b gr gm ov I { s with mem := putM s.mem (wrap32 (vb + i)) va } rd t ∧ Kept (MutR A.heap.size) W W' := by
  obtain ⟨b1, b2⟩ := hb
  have h1 := h.stay ((Bel.refl W).alloc (insB 13 a xb xc i))
  obtain ⟨c0, c1, c2, c3, c4, c5⟩ := refB_cells h1.box
  unfold insB at c1
  have hK : Kept (MutR A.heap.size) W (W.alloc (insB 13 a xb xc i)) := Kept.alloc _ _ _
  generalize hat : wrap32 (vb + i) = z
  by_cases hz : inM s.mem z = true
  · rw [if_pos hz]
    obtain ⟨z0, z1⟩ := inM_iff.1 hz
    obtain ⟨k, rfl⟩ := nat_of z0
    have m1 := h1.memAt k (by omega)
    have f1 := frozen_of h1.rm k
    have hg : putM s.mem (k : Int) va = s.mem.set k va := by unfold putM; rw [if_pos hz, Int.toNat_natCast, wd_wrap_id ha]
    rw [hg]
    have HS := hidm (h1.setMem k va ha)
    unfold insB at m1 f1
    have HAT := hidm hat
    have HK := hidm hK
    have hk : k < s.mem.length := by omega
    have hk' : (k : Int) < s.mem.length := by omega
    have hk0 : (0 : Int) ≤ (k : Int) := by omega
    clear hg hz h h1 hat c0 c2 c3 c4 c5 hK
    go_enter Try.func40, Try.ntmps40
    go_wp2_with (go_at_call 21; refine (refWrap_any _ _ (by omega) (by omega)).mono ?_; rintro e w' ⟨rfl, rfl⟩; rw [Hid.out HAT])
    go_ret2
    exact ⟨rfl, (Hid.out HS).1, (Hid.out HK).trans (Hid.out HS).2⟩
  · rw [if_neg hz]
    have hg : putM s.mem z va = s.mem := by unfold putM; rw [if_neg hz]
    rw [hg]
    have hzz := mt inM_iff.2 hz
    have hcase : z < 0 ∨ (0 ≤ z ∧ decide (z < (s.mem.length : Int)) = false) := by
      rcases Int.lt_or_le z 0 with q | q
      · exact .inl q
      · exact .inr ⟨q, by simp; omega⟩
    have HAT := hidm hat
    have HK := hidm hK
    have H1 := hidm h1
    clear hg hz hzz h h1 hat c0 c2 c3 c4 c5 hK
    rcases hcase with q | ⟨q, q2⟩
    all_goals
      go_enter Try.func40, Try.ntmps40
      go_wp2_with (go_at_call 21; refine (refWrap_any _ _ (by omega) (by omega)).mono ?_; rintro e w' ⟨rfl, rfl⟩; rw [Hid.out HAT])
      go_ret2
      exact ⟨rfl, Hid.out H1, Hid.out HK⟩
end
end Go.Proofs.Ytmgpfhmodjmcdaa
