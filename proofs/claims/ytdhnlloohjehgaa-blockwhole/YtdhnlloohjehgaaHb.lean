/-
  The contracts of package block's Heads and Blocks.
-/
import Derived.Test.YtdhnlloohjehgaaCt
import Derived.Test.YtdhnlloohjehgaaRows1
import Derived.RegionTactic
import Derived.Deep.RegionLaw
namespace Go.Proofs.Ytdhnlloohjehgaa
set_option maxRecDepth 20000
set_option linter.unusedVariables false
open Go.ChangeShapes Go.WideShapes Go.ChangeAt Go.RowKit Go.Deep

theorem ints_nil2 (w : World) : Ints .i64 w (.slice none 0 0) [] := ⟨none, 0, rfl, fun h => absurd h (by simp)⟩
theorem cutL_len (X : List Ins) : (cutL X).length = (hdL X).length + 1 := by simp [cutL]
theorem cutL_at (X : List Ins) (j : Nat) (hj : j < (hdL X).length) : (cutL X).getD j 0 = (hdL X).getD j 0 := by
  unfold cutL
  simp [List.getD, List.getElem?_append_left hj]

set_option maxHeartbeats 1000000 in
theorem heads_any (X : List Ins) (v : Value) (w : World) (hl : X.length ≤ 4096) (hv : Code w v X) :
    Calls Try.prog 17 #[v] w fun e w' => ∃ u, e = .returned u ∧ Ints .i64 w' u (if fitB X = true then hdL X else []) ∧ Bel w w' := by
  cases hf : fitB X with
  | false =>
    go_enter Try.func17, Try.ntmps17
    go_wp2_with (go_at_call 27; refine (cuts_no X v _ hl hv hf).mono ?_; rintro e w1 ⟨rfl, g1⟩)
    go_ret
    exact ⟨_, rfl, ints_nil2 _, g1⟩
  | true =>
    have h1 := cutL_len X
    have h2 := hdL_len X
    have HE := hidm (fun j hj => cutL_at X j hj)
    go_enter Try.func17, Try.ntmps17
    go_wp2_with (go_at_call 27; refine (cuts_yes X v _ hl hv hf).mono ?_; rintro e w1 ⟨u, rfl, hrow, g1⟩; obtain ⟨g, cap, rfl, hg0, hg1, hcap, hmax, hcell⟩ := ints_form hrow (by omega); have HR : Hid (∀ j, j < (hdL X).length → w1.cell? ⟨g, j, none⟩ = some (.int .i64 ((hdL X).getD j 0))) := fun j hj => (hcell j (by omega)).trans (by rw [HE.out j hj]); clear hcell hrow HE; rw [h1] at hcap ⊢; clear h1)
    go_ret
    refine ⟨_, rfl, ⟨_, _, rfl, fun hn => ⟨g, 0, rfl, hg1, fun j hj => ?_⟩⟩, g1⟩
    rw [Nat.zero_add]
    exact HR.out j hj

/-- A slice of blocks. -/
def Blks (w : World) (v : Value) (P : List (Int × Int)) : Prop :=
  ∃ ao cap, v = .slice ao P.length cap ∧ (0 < P.length → ∃ b o, ao = some ⟨b, o, none⟩ ∧ b < w.heap.size ∧ ∀ j, j < P.length → w.cell? ⟨b, o + j * 2, none⟩ = some (.int .i64 (P.getD j (0, 0)).1) ∧ w.cell? ⟨b, o + j * 2 + 1, none⟩ = some (.int .i64 (P.getD j (0, 0)).2))
/-- The first k blocks between cuts. -/
def blkN (C : List Int) (k : Nat) : List (Int × Int) := (List.range k).map fun j => (C.getD j 0, C.getD (j + 1) 0)
theorem blkN_len (C : List Int) (k : Nat) : (blkN C k).length = k := by simp [blkN]
def flatP (P : List (Int × Int)) : List Value := P.flatMap fun p => [.int .i64 p.1, .int .i64 p.2]
theorem flatP_len (P : List (Int × Int)) : (flatP P).length = P.length * 2 := by
  induction P with
  | nil => rfl
  | cons x r ih => simp only [flatP, List.flatMap_cons, List.length_append, List.length_cons, List.length_nil] at ih ⊢; rw [ih]; omega
theorem flatP_snoc (C : List Int) (k : Nat) : flatP (blkN C (k + 1)) = flatP (blkN C k) ++ [.int .i64 (C.getD k 0), .int .i64 (C.getD (k + 1) 0)] := by
  unfold flatP blkN
  rw [List.range_succ, List.map_append, List.flatMap_append]
  rfl
theorem flatP_at (P : List (Int × Int)) : ∀ (j : Nat), j < P.length → (flatP P)[j * 2]? = some (.int .i64 (P.getD j (0, 0)).1) ∧ (flatP P)[j * 2 + 1]? = some (.int .i64 (P.getD j (0, 0)).2) := by
  induction P with
  | nil => intro j hj; simp at hj
  | cons x r ih =>
    intro j hj
    cases j with
    | zero => exact ⟨rfl, rfl⟩
    | succ j =>
      have := ih j (by simpa using hj)
      have e : flatP (x :: r) = [.int .i64 x.1, .int .i64 x.2] ++ flatP r := rfl
      rw [e, List.getElem?_append_right (by simp; omega), List.getElem?_append_right (by simp; omega)]
      simp only [List.length_cons, List.length_nil]
      rw [show (j + 1) * 2 - (0 + 1 + 1) = j * 2 by omega, show (j + 1) * 2 + 1 - (0 + 1 + 1) = j * 2 + 1 by omega]
      simpa using this
theorem blks_of_row {n₀ : Nat} {w : World} {v : Value} {P : List (Int × Int)} (h : w.ownsRow n₀ 36 2 v P.length (flatP P)) : Blks w v P := by
  rcases h.2 with ⟨rfl, e⟩ | ⟨g, cap, cur, rfl, hb, hg, hle, _, hsz, ht⟩
  · exact ⟨none, 0, by rw [e], fun hn => absurd hn (by omega)⟩
  · refine ⟨_, cap, rfl, fun hn => ⟨g, 0, rfl, lt_of_heap hg, fun j hj => ?_⟩⟩
    have hc := h.cells (g := g) rfl
    obtain ⟨e1, e2⟩ := flatP_at P j hj
    have h1 := hc _ _ e1
    have h2 := hc _ _ e2
    rw [add_none] at h1 h2
    exact ⟨h1, by rw [← Nat.add_assoc] at h2; exact h2⟩
theorem blkInfo : (Try.prog.info? 36).map (fun i => (i.zero, i.size, i.bytes)) = some (some (.agg #[.int .i64 0, .int .i64 0]), 2, 16) := by kernel_rfl
def blkL (X : List Ins) : List (Int × Int) := blkN (cutL X) (hdL X).length

set_option maxHeartbeats 2000000 in
theorem blocks_any (X : List Ins) (v : Value) (w : World) (hl : X.length ≤ 4096) (hv : Code w v X) :
    Calls Try.prog 18 #[v] w fun e w' => ∃ u, e = .returned u ∧ Blks w' u (if fitB X = true then blkL X else []) ∧ Bel w w' := by
  cases hf : fitB X with
  | false =>
    go_enter Try.func18, Try.ntmps18
    go_wp2_with (go_at_call 27; refine (cuts_no X v _ hl hv hf).mono ?_; rintro e w1 ⟨rfl, g1⟩)
    go_loopw [3, 5] (fun bv i wr => bv = .slice none 0 0 ∧ i = .int .i64 1 ∧ Bel w wr) (fun _ _ _ => 0)
    case atStart => exact ⟨rfl, rfl, g1⟩
    case round =>
      obtain ⟨rfl, rfl, hb⟩ := hrel
      go_wp2
      go_ret
      exact ⟨_, rfl, ⟨none, 0, rfl, fun h => absurd h (by simp)⟩, hb⟩
  | true =>
    obtain ⟨i0, hi, hz0, hz1, hz2⟩ := info_parts blkInfo
    have h1 := cutL_len X
    have h2 := hdL_len X
    have HB : Hid (blkL X = blkN (cutL X) (hdL X).length) := rfl
    generalize hC : cutL X = C at h1 HB
    have HC := hidm hC
    clear hC
    generalize hM : (hdL X).length = m at h1 h2 HB
    have HM := hidm hM
    clear hM
    go_enter Try.func18, Try.ntmps18
    go_wp2_with (go_at_call 27; refine (cuts_yes X v _ hl hv hf).mono ?_; rw [HC.out]; rintro e w1 ⟨u, rfl, hrow, g1⟩; obtain ⟨g, cap, rfl, hg0, hg1, hcap, hmax, hcell⟩ := ints_form hrow (by omega); have HR : Hid (∀ j, j < m + 1 → w1.cell? ⟨g, j, none⟩ = some (.int .i64 (C.getD j 0))) := fun j hj => hcell j (by omega); clear hcell hrow; rw [h1] at hcap ⊢; clear h1)
    go_loopw [3, 5] (fun bv i wr => ∃ (k : Nat) (ab : Option Addr) (cb : Nat), k ≤ m ∧ bv = .slice ab k cb ∧ i = .int .i64 ((k : Int) + 1) ∧ wr.ownsRow w1.heap.size 36 2 (.slice ab k cb) k (flatP (blkN C k)) ∧ Bel w1 wr) (fun _ i _ => m + 1 - (intOf i).toNat)
    case atStart => exact ⟨0, none, 0, Nat.zero_le _, rfl, rfl, World.ownsRow_nil _ _ _ _, Bel.refl _⟩
    case round =>
      obtain ⟨k, ab, cb, hk, rfl, rfl, hown, hb⟩ := hrel
      rename World => wr
      have hz := hb.size
      by_cases hlt : k < m
      · have e1 := HR.out k (by omega)
        have e2 := HR.out (k + 1) (by omega)
        rw [← (bcell hb).1 _ _ hg1] at e1 e2
        have HF := hidm (flatP_snoc C k)
        generalize C.getD k 0 = x at e1 HF
        generalize C.getD (k + 1) 0 = y at e2 HF
        have gw : g < wr.heap.size := by omega
        go_wp2
        have hwr : IntKind.i64.wrap (k : Int) = k := by rw [IntKind.wrap_i64]; omega
        have hw2 : IntKind.i64.wrap ((k : Int) + 1) = (k : Int) + 1 := by rw [IntKind.wrap_i64]; omega
        have b1 : (k : Int) < (m : Int) + 1 := by omega
        have b2 : (k : Int) + 1 < (m : Int) + 1 := by omega
        have b3 : (0 : Int) ≤ (k : Int) + 1 := by omega
        go_region_law
          ((refine step_append_lies _ (by rfl) _ _ _ (by rfl) w1.heap.size 36 i0 _ 2 16 Try.underlying32 hi hz0 hz1 hz2 rfl (by omega) _ _ _ (by rfl) ((hown.alloc _).drew)
              ⟨wr.heap.size, 0, none⟩ 1 1 [.int .i64 x, .int .i64 y] (by rfl) (by rfl) (World.news_of_block (cs := #[.int .i64 x, .int .i64 y]) (t := 36) (fr := (0, 0)) (heap_alloc_new wr _)) (by simp [Value.oneCell'])
              (by omega) (by unfold maxLen; omega) (by omega) (by simp; omega) (wr.heap.size + 1) (by simp) ?_; intro gg cap1 w3 hown1 hgrow hat hlt))
        all_goals
          go_wp2
          go_roundw
          case rel => exact ⟨k + 1, some ⟨gg, 0, none⟩, cap1, by omega, rfl, by go_num, by rw [HF.out]; exact hown1, ((hb.alloc _).drew).grown hgrow (fun j e => (hown.lt j e).1)⟩
          case measure => simp [intOf]; omega
      · obtain rfl : m = k := by omega
        have hfin : Blks wr (.slice ab m cb) (blkL X) := by
          rw [HB.out]
          refine blks_of_row (n₀ := w1.heap.size) ?_
          rw [blkN_len]
          exact hown
        have HN := hidm hfin
        clear hfin
        go_wp2
        go_ret
        exact ⟨_, rfl, HN.out, btrans g1 hb⟩
end Go.Proofs.Ytdhnlloohjehgaa
