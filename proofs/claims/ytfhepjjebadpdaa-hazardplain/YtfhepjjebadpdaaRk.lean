/-
  The contract of package effect's Reads (Rd over Kpt).
-/
import Derived.Test.YtfhepjjebadpdaaEff2
import Derived.Test.YtfhepjjebadpdaaKpt
import Derived.Deep.AppendLies
import Derived.RegionTactic
namespace Go.Proofs.Ytfhepjjebadpdaa
set_option maxRecDepth 20000
open Go.ChangeShapes Go.WideShapes Go.ChangeAt Go.RowKit

def lo2 (x y : Int) : Int := if y < x then y else x
def hi2 (x y : Int) : Int := if x < y then y else x
def pairL (l h : Int) : List Int := (if l = 0 then [] else [l]) ++ (if h = l then [] else [h])
def rdL (op a b c imm : Int) : List Int := pairL (lo2 (rd1 op a b c imm) (rd2 op a b c imm)) (hi2 (rd1 op a b c imm) (rd2 op a b c imm))

set_option maxHeartbeats 1000000 in
theorem reads_any (op a b c imm : Int) (w : World) :
    Calls Try.prog 28 #[.agg #[.int .i64 op, .int .i64 a, .int .i64 b, .int .i64 c, .int .i64 imm]] w fun e w' => ∃ v, e = .returned v ∧ w'.ownsRow w.heap.size 3 1 v (rdL op a b c imm).length ((rdL op a b c imm).map (Value.int .i64)) ∧ Bel w w' := by
  obtain ⟨i0, hi, hz0, hz1, hz2⟩ := info_parts intInfo
  go_enter Try.func28, Try.ntmps28
  go_wp2_with (go_at_call 31; refine (regs_any _ _ _ _ _ _).mono ?_; rintro e w1 ⟨rfl, hg1⟩; have hz := hg1.size)
  go_region
  have hB : Bel w (w1.alloc (Obj.cells #[Value.int IntKind.i64 (rd1 op a b c imm), Value.int IntKind.i64 (rd2 op a b c imm), Value.int IntKind.i64 (wr1 op a b c imm)] 48)).drew :=
    ((btrans ((Bel.refl w).alloc _) hg1).alloc _).drew
  clear hg1 hz
  generalize (w1.alloc (Obj.cells #[Value.int IntKind.i64 (rd1 op a b c imm), Value.int IntKind.i64 (rd2 op a b c imm), Value.int IntKind.i64 (wr1 op a b c imm)] 48)).drew = w2 at hB ⊢
  have hR : rdL op a b c imm = pairL (if rd2 op a b c imm < rd1 op a b c imm then rd2 op a b c imm else rd1 op a b c imm) (if rd1 op a b c imm < rd2 op a b c imm then rd2 op a b c imm else rd1 op a b c imm) := rfl
  generalize (if rd2 op a b c imm < rd1 op a b c imm then rd2 op a b c imm else rd1 op a b c imm) = l at hR ⊢
  generalize (if rd1 op a b c imm < rd2 op a b c imm then rd2 op a b c imm else rd1 op a b c imm) = h at hR ⊢
  have HR : Hid (rdL op a b c imm = pairL l h) := hR
  clear hR
  have hs := hB.size
  by_cases hl : l = 0
  · have fl : (l != 0) = false := by simp [hl]
    by_cases hh : h = l
    · have fh : (h != l) = false := by simp [hh]
      have HL := HR.out
      rw [show pairL l h = [] from by simp [pairL, hl, hh]] at HL
      have HL' : Hid (rdL op a b c imm = []) := HL
      clear HL HR hl hh
      go_wp2
      go_ret
      refine ⟨_, rfl, ?_, hB⟩
      rw [HL'.out]
      exact World.ownsRow_nil _ _ _ _
    · have fh : (h != l) = true := by simp [hh]
      have HL := HR.out
      rw [show pairL l h = [h] from by subst hl; simp [pairL, hh]] at HL
      have HL' : Hid (rdL op a b c imm = [h]) := HL
      clear HL HR hl hh
      go_wp2_with (at_builtin; refine wpList_append_own _ rfl (.tmp 28) (.tmp 30) 38 rfl w.heap.size 3 i0 (.int .i64 0) 1 8 Try.underlying38 hi hz0 hz1 hz2 rfl (by decide) (.slice none 0 0) 0 [] rfl (World.ownsRow_nil _ _ _ _) ⟨w2.heap.size, 0, none⟩ 1 1 [.int .i64 h] rfl rfl (by intro j u hj; match j, hj with | 0, hj => (simp at hj; subst hj; simp [Addr.add])) (by intro u hu; simp at hu; subst hu; rfl) (by unfold maxLen; omega) (by omega) (by simp; omega) ?_; intro v1 w3 hown1 hgrow1 _)
      go_ret
      refine ⟨_, rfl, ?_, ?_⟩
      · rw [HL'.out]
        exact hown1
      · exact (hB.alloc _).grown hgrow1 (by simp [Value.ownBlock])
  · have fl : (l != 0) = true := by simp [hl]
    by_cases hh : h = l
    · have fh : (h != l) = false := by simp [hh]
      have HL := HR.out
      rw [show pairL l h = [l] from by simp [pairL, hl, hh]] at HL
      have HL' : Hid (rdL op a b c imm = [l]) := HL
      clear HL HR hl hh
      go_wp2_with (at_builtin; refine wpList_append_own _ rfl (.tmp 21) (.tmp 23) 38 rfl w.heap.size 3 i0 (.int .i64 0) 1 8 Try.underlying38 hi hz0 hz1 hz2 rfl (by decide) (.slice none 0 0) 0 [] rfl (World.ownsRow_nil _ _ _ _) ⟨w2.heap.size, 0, none⟩ 1 1 [.int .i64 l] rfl rfl (by intro j u hj; match j, hj with | 0, hj => (simp at hj; subst hj; simp [Addr.add])) (by intro u hu; simp at hu; subst hu; rfl) (by unfold maxLen; omega) (by omega) (by simp; omega) ?_; intro v1 w3 hown1 hgrow1 _)
      go_ret
      refine ⟨_, rfl, ?_, ?_⟩
      · rw [HL'.out]
        exact hown1
      · exact (hB.alloc _).grown hgrow1 (by simp [Value.ownBlock])
    · have fh : (h != l) = true := by simp [hh]
      have HL := HR.out
      rw [show pairL l h = [l, h] from by simp [pairL, hl, hh]] at HL
      have HL' : Hid (rdL op a b c imm = [l, h]) := HL
      clear HL HR hl hh
      go_wp2_with (first | (at_builtin; refine wpList_append_own _ rfl (.tmp 21) (.tmp 23) 38 rfl w.heap.size 3 i0 (.int .i64 0) 1 8 Try.underlying38 hi hz0 hz1 hz2 rfl (by decide) (.slice none 0 0) 0 [] rfl (World.ownsRow_nil _ _ _ _) ⟨w2.heap.size, 0, none⟩ 1 1 [.int .i64 l] rfl rfl (by intro j u hj; match j, hj with | 0, hj => (simp at hj; subst hj; simp [Addr.add])) (by intro u hu; simp at hu; subst hu; rfl) (by unfold maxLen; omega) (by omega) (by simp; omega) ?_; intro v1 w3 hown1 hgrow1 _; have hB3 := (hB.alloc _).grown hgrow1 (by simp [Value.ownBlock]); have hs3 := hB3.size) | (at_builtin; refine wpList_append_own _ rfl (.tmp 28) (.tmp 30) 38 rfl w.heap.size 3 i0 (.int .i64 0) 1 8 Try.underlying38 hi hz0 hz1 hz2 rfl (by decide) v1 1 [.int .i64 l] rfl (hown1.alloc _) ⟨w3.heap.size, 0, none⟩ 1 1 [.int .i64 h] rfl rfl (by intro j u hj; match j, hj with | 0, hj => (simp at hj; subst hj; simp [Addr.add])) (by intro u hu; simp at hu; subst hu; rfl) (by unfold maxLen; omega) (by omega) (by simp; omega) ?_; intro v2 w4 hown2 hgrow2 _))
      go_ret
      refine ⟨_, rfl, ?_, ?_⟩
      · rw [HL'.out]
        exact hown2
      · exact (hB3.alloc _).grown hgrow2 (fun k hk => (hown1.lt k hk).1)
end Go.Proofs.Ytfhepjjebadpdaa
