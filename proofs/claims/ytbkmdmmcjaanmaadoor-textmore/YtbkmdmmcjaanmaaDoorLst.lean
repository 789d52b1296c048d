/-
  The contract of package text's Listing.
-/
import Derived.Test.YtbkmdmmcjaanmaaDoorRdp
import Derived.Test.YtbkmdmmcjaanmaaDoorBld
namespace Go.Proofs.YtbkmdmmcjaanmaaDoor
set_option maxRecDepth 20000
open Go.ChangeShapes Go.WideShapes Go.ChangeAt Go.RowKit
open Go.Lib hiding intOf

def lineL (k : Nat) (x : Ins) : List UInt8 := itoa k ++ [58, 32] ++ x.text ++ [10]
/-- The lines of the first k instructions. -/
def listN (X : List Ins) : Nat → List UInt8
  | 0 => []
  | k + 1 => listN X k ++ lineL k (X.getD k Ins.zero)
theorem line_len (k : Nat) (x : Ins) (hk : k ≤ 9999) : (lineL k x).length ≤ 33 := by
  have h1 := itoa_len k (by omega) (by omega)
  have h2 := text_len x.o x.a x.b x.c x.i
  have h3 : x.text = textL x.o x.a x.b x.c x.i := rfl
  unfold lineL
  rw [h3]
  simp only [List.length_append, List.length_cons, List.length_nil]
  omega
theorem list_len (X : List Ins) (k : Nat) (hk : k ≤ 9999) : (listN X k).length ≤ 33 * k := by
  induction k with
  | zero => simp [listN]
  | succ k ih =>
    have := line_len k (X.getD k Ins.zero) (by omega)
    have := ih (by omega)
    simp only [listN, List.length_append]
    omega
/-- The cells of a row of instructions. -/
def CodeAt (w : World) (b o : Nat) (X : List Ins) : Prop :=
  ∀ j, j < X.length → w.cell? ⟨b, o + j * 5, none⟩ = some (.int .i64 (X.getD j Ins.zero).o) ∧ w.cell? ⟨b, o + j * 5 + 1, none⟩ = some (.int .i64 (X.getD j Ins.zero).a) ∧ w.cell? ⟨b, o + j * 5 + 2, none⟩ = some (.int .i64 (X.getD j Ins.zero).b) ∧
    w.cell? ⟨b, o + j * 5 + 3, none⟩ = some (.int .i64 (X.getD j Ins.zero).c) ∧ w.cell? ⟨b, o + j * 5 + 4, none⟩ = some (.int .i64 (X.getD j Ins.zero).i)
/-- A slice that holds these instructions. -/
def Code (w : World) (v : Value) (X : List Ins) : Prop :=
  ∃ ao cap, v = .slice ao X.length cap ∧ (0 < X.length → ∃ b o, ao = some ⟨b, o, none⟩ ∧ b < w.heap.size ∧ CodeAt w b o X)
theorem CodeAt.stay {w w' : World} {b o : Nat} {X : List Ins} (h : CodeAt w b o X) (hb : b < w.heap.size) (hl : Bel w w') : CodeAt w' b o X := by
  intro j hj
  have := h j hj
  rw [(bcell hl).1 _ _ hb, (bcell hl).1 _ _ hb, (bcell hl).1 _ _ hb, (bcell hl).1 _ _ hb, (bcell hl).1 _ _ hb]
  exact this
theorem Code.stay {w w' : World} {v : Value} {X : List Ins} (h : Code w v X) (hl : Bel w w') : Code w' v X := by
  obtain ⟨ao, cap, rfl, h⟩ := h
  exact ⟨ao, cap, rfl, fun hn => let ⟨b, o, e, hb, hc⟩ := h hn; ⟨b, o, e, Nat.lt_of_lt_of_le hb hl.size, hc.stay hb hl⟩⟩
theorem kept_cells {w w' : World} {b k : Nat} {cs : Array Value} {t : TypeId} (h : Lib.OthersKept 5 (some b) w w') (hk : w.heap[k]? = some (.cells cs t (0, 0))) (hne : k ≠ b) (ht : t ≠ 5) : w'.heap[k]? = some (.cells cs t (0, 0)) :=
  h k _ hk (by intro e; injection e with e; exact hne e) (by intro c fz e; injection e with _ e _; exact ht e)
set_option maxHeartbeats 2000000 in
set_option maxRecDepth 20000 in
theorem listing_any (X : List Ins) (v : Value) (w : World) (g : Gl w) (hn : X.length ≤ 9999) (hv : Code w v X) :
    Calls Tryd.prog 16 #[v] w fun e w' => e = .returned (.string (bs (listN X X.length))) ∧ Bel w w' := by
  obtain ⟨ao, cap, rfl, hc⟩ := hv
  have hf := fresh_IsB w
  go_enter Tryd.func16, Tryd.ntmps16
  go_wp2_with fail
  go_loopw [8] (fun i wr => ∃ k : Nat, k ≤ X.length ∧ i = .int .i64 k ∧ IsB w.heap.size w.heap.size (listN X k) wr ∧ Bel w wr) (fun i _ => X.length - (intOf i).toNat)
  case atStart => exact ⟨0, Nat.zero_le _, rfl, hf, (Bel.refl w).alloc _⟩
  case round =>
    obtain ⟨k, hk, rfl, hI, hb⟩ := hrel
    rename World => wr
    have hz := hb.size
    have hll := list_len X k (by omega)
    by_cases hlt : k < X.length
    · obtain ⟨b, o, rfl, hbw, hca⟩ := hc (by omega)
      obtain ⟨a0, a1, a2, a3, a4⟩ := hca k hlt
      rw [← (bcell hb).1 _ _ hbw] at a0 a1 a2 a3 a4
      have hline : Hid (listN X (k + 1) = (((listN X k ++ itoa k) ++ [58, 32]) ++ textL (X.getD k Ins.zero).o (X.getD k Ins.zero).a (X.getD k Ins.zero).b (X.getD k Ins.zero).c (X.getD k Ins.zero).i) ++ [10]) := by
        show _ = _
        simp only [listN, lineL, Ins.text, List.append_assoc]
      generalize X.getD k Ins.zero = x at a0 a1 a2 a3 a4 hline
      have hil := itoa_len k (by omega) (by omega)
      have htl := text_len x.o x.a x.b x.c x.i
      have hBlt : w.heap.size < wr.heap.size := by rcases hI with h | h <;> exact h.lt
      generalize listN X k = L at hI hll hline
      clear hc hca
      go_wp2_with (go_at_call 19; refine (itoa_any _ _ ((g.stay hb).alloc _) (by omega) (by omega)).mono ?_; rintro e w2 ⟨rfl, h2⟩; refine Hid.out ?_)
      have hbox : w2.heap[wr.heap.size]? = some (.cells #[.int .i64 x.o, .int .i64 x.a, .int .i64 x.b, .int .i64 x.c, .int .i64 x.i] 23 (0, 0)) := by rw [h2.out.block _ (by simp)]; exact heap_alloc_new _ _
      have hI2 := (hI.stay ((Bel.refl wr).alloc _)).stay h2
      have hb2 := btrans (hb.alloc _) h2
      have hz2 := hb2.size
      clear hI h2 a0 a1 a2 a3 a4
      refine Lib.hid ?_
      go_wp2_with (go_at_call 27; refine (wstr_any _ _ _ _ _ hI2 (by omega) hz2).mono ?_; rintro e w3 ⟨rfl, hI3, hb3, hk3⟩; refine Hid.out ?_)
      have hbox3 := kept_cells hk3 hbox (by omega) (by decide)
      have hw3 : Bel w w3 := Below.trans hb2 hb3
      have hz3 := hw3.size
      clear hI2 hb2 hbox hb3 hk3
      refine Lib.hid ?_
      go_wp2_with (go_at_call 27; refine (wstr_any _ _ _ [58, 32] _ hI3 (by simp only [List.length_append, List.length_cons, List.length_nil]; omega) hz3).mono ?_; rintro e w4 ⟨rfl, hI4, hb4, hk4⟩; refine Hid.out ?_)
      have hbox4 := kept_cells hk4 hbox3 (by omega) (by decide)
      have hw4 : Bel w w4 := Below.trans hw3 hb4
      have hz4 := hw4.size
      have d0 : w4.cell? ⟨wr.heap.size, 0, none⟩ = some (.int .i64 x.o) := by rw [Lib.cell_of_heap hbox4]; rfl
      have d1 : w4.cell? ⟨wr.heap.size, 1, none⟩ = some (.int .i64 x.a) := by rw [Lib.cell_of_heap hbox4]; rfl
      have d2 : w4.cell? ⟨wr.heap.size, 2, none⟩ = some (.int .i64 x.b) := by rw [Lib.cell_of_heap hbox4]; rfl
      have d3 : w4.cell? ⟨wr.heap.size, 3, none⟩ = some (.int .i64 x.c) := by rw [Lib.cell_of_heap hbox4]; rfl
      have d4 : w4.cell? ⟨wr.heap.size, 4, none⟩ = some (.int .i64 x.i) := by rw [Lib.cell_of_heap hbox4]; rfl
      have hg4 := g.stay hw4
      clear hI3 hw3 hbox3 hb4 hk4 hbox4
      refine Lib.hid ?_
      go_wp2_with (go_at_call 9; refine (text_any _ _ _ _ _ _ hg4).mono ?_; rintro e w5 ⟨rfl, h5⟩; refine Hid.out ?_)
      have hI5 := hI4.stay h5
      have hw5 := btrans hw4 h5
      have hz5 := hw5.size
      clear hI4 d0 d1 d2 d3 d4
      refine Lib.hid ?_
      go_wp2_with (go_at_call 27; refine (wstr_any _ _ _ _ _ hI5 (by simp only [List.length_append, List.length_cons, List.length_nil]; omega) hz5).mono ?_; rintro e w6 ⟨rfl, hI6, hb6, hk6⟩; refine Hid.out ?_)
      have hw6 : Bel w w6 := Below.trans hw5 hb6
      have hz6 := hw6.size
      clear hI5
      refine Lib.hid ?_
      go_wp2_with (go_at_call 27; refine (wstr_any _ _ _ [10] _ hI6 (by simp only [List.length_append, List.length_cons, List.length_nil]; omega) hz6).mono ?_; rintro e w7 ⟨rfl, hI7, hb7, hk7⟩)
      go_roundw
      case rel => exact ⟨k + 1, by omega, by go_num, by rw [hline.out]; exact hI7, Below.trans hw6 hb7⟩
      case measure => simp [intOf]; omega
    · have hkn : X.length = k := by omega
      have HK : Hid _ := hkn
      clear hkn hc
      go_wp2_with (go_at_call 28; refine (String_any _ _ _ _ hI hz).mono ?_; rintro e w2 ⟨rfl, h2⟩)
      go_ret
      exact ⟨ret_str (by rw [HK.out]), Below.trans hb h2⟩
end Go.Proofs.YtbkmdmmcjaanmaaDoor
