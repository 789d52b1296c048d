/-
  The contract of Order.
-/
import Derived.Test.YtpmofaajkhllpaaLp11
import Derived.Deep.AppendLies
namespace Go.Proofs.Ytpmofaajkhllpaa
set_option maxRecDepth 20000
set_option linter.unusedVariables false
open Go.ChangeShapes Go.WideShapes Go.ChangeAt Go.RowKit

def lenOf : Value → Nat
  | .slice _ n _ => n
  | _ => 0
theorem steps_fin {X : List Ins} {Z : List Int} (h : Steps X Z) (hn : NA X Z) : cnt Z < X.length ∧ Z.length < 2 * X.length := by
  have h1 := steps_cnt h
  have h2 := steps_len h
  have h3 : cnt Z ≠ X.length := fun e => by
    obtain ⟨j, hj, q⟩ := hn
    exact q (h1.2.1 e j hj)
  omega
theorem cnt_na {X : List Ins} {Z : List Int} (h : Steps X Z) (hc : cnt Z < X.length) : NA X Z := by
  refine Classical.byContradiction fun q => ?_
  have := (steps_cnt h).2.2 fun j hj => Classical.byContradiction fun e => q ⟨j, hj, e⟩
  omega
theorem make_cap (n : Nat) (hn : n ≤ 100000) (W : World) :
    (Instr.makeSlice 25 (.int .i64 0) (.int .i64 n)).run Try.prog W = .ok (.slice (some ⟨W.heap.size, 0, none⟩) 0 n) (W.alloc (intB (fun _ => 0) n)) := by
  obtain ⟨i0, hi, hz0, hz1, hz2⟩ := info_parts intInfo
  have h := run_make (P := Try.prog) W 25 3 i0 _ Try.underlying25 hi hz0 .i64 .i64 0 n (by omega) (by omega) (by rw [hz2]; omega) (by omega)
  rw [hz1] at h
  have e : madeCells (Value.int .i64 0).cells (n * 1) = (Array.range n).map fun _ => Value.int .i64 0 := by
    have hc : (Value.int .i64 0).cells = #[.int .i64 0] := rfl
    unfold madeCells
    rw [hc, Nat.mul_one]
    refine congrArg (fun f => Array.map f (Array.range n)) (funext fun i => ?_)
    simp [Nat.mod_one]
  rw [show ((n : Int).toNat * 1) = n * 1 from rfl, e] at h
  exact h
theorem own_made (n : Nat) (hn : n ≤ 100000) (W : World) (base : Nat) (hb : base ≤ W.heap.size) : OwnI base (W.alloc (intB (fun _ => 0) n)) (.slice (some ⟨W.heap.size, 0, none⟩) 0 n) [] :=
  World.ownsRow_made W _ n hb (by unfold maxLen; omega) (by simp)

set_option maxHeartbeats 4000000 in
theorem order_any (X : List Ins) (v : Value) (w : World) (hX : X.length ≤ 1000) (hv : Code w v X) :
    Calls Try.prog 12 #[v] w fun e W' => ∃ v' Z, e = .returned v' ∧ OrdS X Z ∧ OwnI w.heap.size W' v' Z ∧ Bel w W' := by
  have hline := line_any X v w hX hv
  obtain ⟨ao, cap, rfl, _⟩ := hv
  obtain ⟨i0, hi, hz0, hz1, hz2⟩ := info_parts intInfo
  have hmk := make_cap X.length (by omega)
  go_enter Try.func12, Try.ntmps12
  go_wp2_with (go_at_call 21; refine hline.mono ?_; rintro e w1 ⟨b, hg, hc, ag, bg, bv, rv, aw, R, rfl, hM, hL, hB⟩)
  have hM2 := hM.bel ((Bel.refl w1).alloc (intB (fun _ => 0) X.length))
  have hO := own_made X.length (by omega) w1 w1.heap.size (Nat.le_refl _)
  have hB2 := hB.alloc (intB (fun _ => 0) X.length)
  have hsz : w1.heap.size ≤ (w1.alloc (intB (fun _ => 0) X.length)).heap.size := by simp
  generalize w1.alloc (intB (fun _ => 0) X.length) = w2 at hM2 hO hB2 hsz ⊢
  have hbw1 := hM.blt
  have hagw1 := hM.agl
  clear hmk hM hline
  go_loopw [4, 5] (fun o s wr => ∃ (Z : List Int) (rv : Value) (aw : Nat → Int) (R : List Pr) (ks : List (Nat × Int)), s = .int .i64 (cnt Z) ∧ LineM w.heap.size w1.heap.size wr b X hg hc ag bg bv (fun i => behL X i X.length) rv aw R ks ∧ LI X Z aw R (keys ks) ∧ OwnI w1.heap.size wr o Z ∧ w1.heap.size ≤ wr.heap.size ∧ Bel w wr) (fun o _ _ => 2 * X.length - lenOf o)
  case atStart => exact ⟨[], rv, aw, R, [], rfl, hM2, hL, hO, hsz, hB2⟩
  case round =>
    obtain ⟨Z, rv2, aw2, R2, ks2, rfl, hM, hL2, hO2, hw1r, hBr⟩ := hrel
    rename World => wr
    obtain ⟨ao2, cap2, q⟩ := ownI_form hO2
    subst q
    clear hM2 hL hO hB2
    have hbl := hM.blt
    have hcnt := (steps_cnt hL2.steps).1
    have hzl := steps_len hL2.steps
    by_cases hlt : cnt Z < X.length
    · have hna := cnt_na hL2.steps hlt
      have hfin := steps_fin hL2.steps hna
      have hcall := next_any w.heap.size w1.heap.size b X Z hg hc ag bg bv rv2 aw2 R2 ks2 hX hna wr hM hL2
      have HL := hidm hL2
      have HO := hidm hO2
      have hwr := hBr.size
      clear hM hL2 hO2 hna
      go_wp2_with (first
        | (have q := tk3; at_builtin; refine wpList_append_lies _ rfl (.tmp 22) (.tmp 24) 25 rfl w1.heap.size 3 i0 _ 1 8 Try.underlying25 hi hz0 hz1 hz2 rfl (by decide) _ _ _ rfl (HO3.out.alloc _) ⟨w3.heap.size, 0, none⟩ 1 1 [.int .i64 x] rfl rfl (cell_one_new _ _ _) (by intro u hu; simp at hu; subst hu; rfl) (by omega) (by unfold maxLen; omega) (by omega) (by have := k3.size; simp; omega) (w3.heap.size + 1) (by simp) ?_; intro gg cap1 w4 hown1 hgrow hat hlt1)
        | (go_at_call 22; refine hcall.mono ?_; rintro e w3 ⟨x, rfl, hbest, rv3, aw3, R3, ks3, m3, l3, k3⟩; have HO3 := hidm (ownI_kept HO.out k3 (fun g c f q s => by
            have := (ownI_block HO.out g q).1
            rcases s with s | s | ⟨_, s | s⟩
            · omega
            · omega
            · exact absurd s (by simp [tag])
            · exact absurd s (by simp [tag]))); have HM3 := hidm m3; have HL3 := hidm l3; have HBE := hidm hbest; have tk3 := hidm True.intro; clear m3 l3 hbest))
      all_goals
        have kk : Kept (fun k o => w1.heap.size ≤ k ∧ tag o = some 3) w3 w4 := (Kept.alloc _ _ _).trans (Kept.grown hgrow fun k o e ho => by
          obtain ⟨h1, cur, hc⟩ := ownI_block HO3.out k e
          have h2 := heap_old (o := Obj.cells #[.int .i64 x] 3) hc
          rw [h2] at ho
          cases ho
          exact ⟨h1, rfl⟩)
        have hM4 := HM3.out.kept kk (fun _ _ s => s)
        have hO4 : OwnI w1.heap.size w4 (.slice (some ⟨gg, 0, none⟩) (Z.length + 1) cap1) (Z ++ [x]) := by
          unfold OwnI
          rw [List.length_append, List.map_append]
          exact hown1
        have hB4 : Bel w w4 := (hBr.kept k3 (fun i o s => by
          have := HM3.out.rdy.low
          rcases s with s | s | ⟨s, _⟩ <;> omega)).kept kk (fun i o s => by have := hB.size; omega)
        have hc := cnt_snoc Z x
        have hs4 := kk.size
        have hs3 := k3.size
        go_roundw
        case rel =>
          by_cases hx : x = -1
          · first
              | exact ⟨Z ++ [x], rv3, aw3, R3, ks3, by rw [hc, if_pos hx]; rfl, hM4, HL3.out, hO4, by omega, hB4⟩
              | (exfalso; simp_all; done)
          · first
              | exact ⟨Z ++ [x], rv3, aw3, R3, ks3, by rw [hc, if_neg hx]; go_num, hM4, HL3.out, hO4, by omega, hB4⟩
              | (exfalso; simp_all; done)
        case measure => simp only [lenOf]; omega
    · have hall := ((steps_cnt hL2.steps).2.1 (by omega))
      have hw1 := hB.size
      have HORD : OrdS X Z := ⟨hL2.steps, hall⟩
      clear hM hL2 hzl hall
      go_wp2
      go_ret
      exact ⟨_, Z, rfl, HORD, ownI_low hO2 hw1, hBr⟩
end Go.Proofs.Ytpmofaajkhllpaa
