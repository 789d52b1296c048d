/-
  The statements' fixed answer (stage 9).
-/
import Derived.Test.YtdhnlloohjehgaaHb
import Derived.Test.YtdhnlloohjehgaaSc
import Derived.Test.YtdhnlloohjehgaaRh
import Derived.Test.YtdhnlloohjehgaaLit
import Derived.Laws.StructEq
namespace Go.Proofs.Ytdhnlloohjehgaa
set_option maxRecDepth 20000
set_option linter.unusedVariables false
open Go.ChangeShapes Go.WideShapes Go.ChangeAt Go.RowKit

def awkX : List Ins := [⟨10, 0, 0, 0, 0⟩, ⟨15, 0, 0, 0, 0⟩, ⟨0, 0, 0, 0, 0⟩]
theorem awk_fit : fitB awkX = true := by decide +kernel
theorem awk_strict : strictB awkX = true := by decide +kernel
theorem awk_heads : hdL awkX = [0, 2] := by decide +kernel
theorem awk_blocks : blkL awkX = [(0, 2), (2, 3)] := by decide +kernel
theorem heads_awake (v : Value) (W : World) (hv : Code W v awkX) :
    Calls Try.prog 17 #[v] W fun e W' => ∃ b o c, e = .returned (.slice (some ⟨b, o, none⟩) 2 c) ∧ W'.cell? ⟨b, o, none⟩ = some (.int .i64 0) ∧ W'.cell? ⟨b, o + 1, none⟩ = some (.int .i64 2) ∧ b < W'.heap.size ∧ Bel W W' := by
  refine (heads_any awkX v W (by decide) hv).mono ?_
  rw [awk_fit, if_pos rfl, awk_heads]
  rintro e W' ⟨u, rfl, ⟨ao, c, rfl, hc⟩, hB⟩
  obtain ⟨b, o, rfl, hb, hcell⟩ := hc (by decide)
  exact ⟨b, o, c, rfl, hcell 0 (by decide), hcell 1 (by decide), hb, hB⟩
theorem blocks_awake (v : Value) (W : World) (hv : Code W v awkX) :
    Calls Try.prog 18 #[v] W fun e W' => ∃ b o c, e = .returned (.slice (some ⟨b, o, none⟩) 2 c) ∧ W'.cell? ⟨b, o + 2, none⟩ = some (.int .i64 2) ∧ W'.cell? ⟨b, o + 2 + 1, none⟩ = some (.int .i64 3) ∧ b < W'.heap.size ∧ Bel W W' := by
  refine (blocks_any awkX v W (by decide) hv).mono ?_
  rw [awk_fit, if_pos rfl, awk_blocks]
  rintro e W' ⟨u, rfl, ⟨ao, c, rfl, hc⟩, hB⟩
  obtain ⟨b, o, rfl, hb, hcell⟩ := hc (by decide)
  exact ⟨b, o, c, rfl, (hcell 1 (by decide)).1, (hcell 1 (by decide)).2, hb, hB⟩
set_option maxHeartbeats 1000000 in
theorem awake_any (w : World) : Calls Try.prog 10 #[] w fun e w' => e = .returned (.bool true) ∧ Bel w w' := by
  have HL := hidm (code_lit (X := awkX) (heap_new w (.cells (flat awkX).toArray 24)) 3 3 rfl)
  have hf := awk_fit
  have hs := awk_strict
  have b0 := (Bel.refl w).alloc (.cells (flat awkX).toArray 24)
  go_enter Try.func10, Try.ntmps10
  go_wp2_with (first
    | (go_at_call 17; refine (heads_awake _ _ HL.out).mono ?_; rintro e w1 ⟨b1, o1, c1, rfl, p1, p2, l1, g1⟩; have z1 := g1.size)
    | (go_at_call 18; refine (blocks_awake _ _ (HL.out.stay g1)).mono ?_; rintro e w2 ⟨b2, o2, c2, rfl, q1, q2, l2, g2⟩; have p3 := ((bcell g2).1 b1 o1 l1).trans p1; have p4 := ((bcell g2).1 b1 (o1 + 1) l1).trans p2; have B2 := btrans g1 g2)
    | (go_at_call 13; refine (fit_any awkX _ _ (by decide) (HL.out.stay B2)).mono ?_; rw [hf]; rintro e w3 ⟨rfl, g3⟩; have B3 := btrans B2 g3)
    | (go_at_call 15; refine (strict_any awkX _ _ (by decide) (HL.out.stay B3)).mono ?_; rw [hs]; rintro e w4 ⟨rfl, g4⟩))
  go_ret
  exact ⟨rfl, btrans (btrans b0 B3) g4⟩
end Go.Proofs.Ytdhnlloohjehgaa
