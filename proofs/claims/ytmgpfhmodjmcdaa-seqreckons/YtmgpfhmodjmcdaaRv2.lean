/-
  The reference's Value; the program's Reckon.
-/
import Derived.Test.YtmgpfhmodjmcdaaRv
namespace Go.Proofs.Ytmgpfhmodjmcdaa
set_option maxRecDepth 20000
set_option linter.unusedVariables false
open Go.ChangeShapes Go.WideShapes Go.ChangeAt Go.RowKit

theorem wrap_bv (v : BitVec 32) : wrap32 (v.toNat : Int) = v.toInt := by
  rw [BitVec.toInt_eq_toNat_bmod, Int.bmod_def]
  unfold wrap32
  have := v.isLt
  omega
theorem wrap_and {x y : Int} (hx : Wd x) (hy : Wd y) : wrap32 ((opV false x y).toNat : Int) = bits .and .i64 x y := by
  rw [wrap_bv, bits_and_w hx hy]
  rfl
theorem wrap_or {x y : Int} (hx : Wd x) (hy : Wd y) : wrap32 ((opV true x y).toNat : Int) = bits .or .i64 x y := by
  rw [wrap_bv, bits_or_w hx hy]
  rfl
/-- A number far from the ends. -/
def Mid (u : Int) : Prop := -9007199254740992 ≤ u ∧ u ≤ 9007199254740992
theorem mid_wd {x : Int} (h : Wd x) : Mid x := by unfold Wd at h; unfold Mid; omega
theorem mid_bv (v : BitVec 32) : Mid (v.toNat : Int) := by have := v.isLt; unfold Mid; omega
theorem wrap_wrap (n : Int) : wrap32 (wrap32 n) = wrap32 n := wd_wrap_id (wd_wrap n)
def valU (o i x y : Int) : Int :=
  if o = 1 then x + y else if o = 2 then x - y else if o = 3 then wrap32 (x * y)
  else if o = 4 then (if y = 0 then 0 else wrap32 (x.tdiv y)) else if o = 5 then (if y = 0 then 0 else x.tmod y)
  else if o = 6 then ((opV false x y).toNat : Int) else if o = 7 then ((opV true x y).toNat : Int)
  else if o = 8 then (if x < y then 1 else 0) else if o = 9 then (if x = y then 1 else 0)
  else if o = 10 then x + i else 65536 * i
theorem val_ok {o i x y : Int} (ho : 1 ≤ o ∧ o ≤ 11) (hx : Wd x) (hy : Wd y) (hi : -32768 ≤ i ∧ i ≤ 32767) (h : recT o y = 0) : wrap32 (valU o i x y) = recV o i x y ∧ Mid (valU o i x y) := by
  obtain ⟨x1, x2⟩ := id hx
  obtain ⟨y1, y2⟩ := id hy
  have hs : o = 1 ∨ o = 2 ∨ o = 3 ∨ o = 4 ∨ o = 5 ∨ o = 6 ∨ o = 7 ∨ o = 8 ∨ o = 9 ∨ o = 10 ∨ o = 11 := by omega
  rcases hs with rfl | rfl | rfl | rfl | rfl | rfl | rfl | rfl | rfl | rfl | rfl
  · exact ⟨rfl, by show Mid (x + y); unfold Mid; omega⟩
  · exact ⟨rfl, by show Mid (x - y); unfold Mid; omega⟩
  · exact ⟨wrap_wrap _, mid_wd (wd_wrap _)⟩
  · have h0 : y ≠ 0 := by intro e; simp [recT, e] at h
    have e1 : valU 4 i x y = wrap32 (x.tdiv y) := by simp [valU, h0]
    have e2 : recV 4 i x y = wrap32 (x.tdiv y) := by simp [recV, h0]
    rw [e1, e2]; exact ⟨wrap_wrap _, mid_wd (wd_wrap _)⟩
  · have h0 : y ≠ 0 := by intro e; simp [recT, e] at h
    have hm := tmod_wd hx hy h0
    have e1 : valU 5 i x y = x.tmod y := by simp [valU, h0]
    have e2 : recV 5 i x y = x.tmod y := by simp [recV, h0]
    rw [e1, e2]; exact ⟨wd_wrap_id hm, mid_wd hm⟩
  · exact ⟨wrap_and hx hy, mid_bv _⟩
  · exact ⟨wrap_or hx hy, mid_bv _⟩
  · have e1 : valU 8 i x y = recV 8 i x y := rfl
    have hw := rec_wd (o := 8) (i := i) hx hy
    rw [e1]; exact ⟨wd_wrap_id hw, mid_wd hw⟩
  · have e1 : valU 9 i x y = recV 9 i x y := rfl
    have hw := rec_wd (o := 9) (i := i) hx hy
    rw [e1]; exact ⟨wd_wrap_id hw, mid_wd hw⟩
  · exact ⟨rfl, by show Mid (x + i); unfold Mid; omega⟩
  · refine ⟨?_, by show Mid (65536 * i); unfold Mid; omega⟩
    show wrap32 (65536 * i) = wrap32 (i * 65536)
    rw [Int.mul_comm]
set_option maxHeartbeats 4000000 in
theorem value_any (o a b c i x y : Int) (W : World) (ho : 1 ≤ o ∧ o ≤ 11) (hx : Wd x) (hy : Wd y) (hi : -32768 ≤ i ∧ i ≤ 32767) :
    Calls Try.prog 20 #[.agg #[.int .i64 o, .int .i64 a, .int .i64 b, .int .i64 c, .int .i64 i], .int .i64 x, .int .i64 y] W fun e W' => e = .returned (.tuple #[.int .i64 (valU o i x y), .bool (decide (recT o y = 0))]) ∧ Bel W W' := by
  have hB : ∀ u, Bel W (W.alloc u) := fun u => (Bel.refl W).alloc u
  obtain ⟨x1, x2⟩ := id hx
  obtain ⟨y1, y2⟩ := id hy
  by_cases hd : o = 4 ∨ o = 5
  · by_cases h0 : y = 0
    · have ht : recT o y = 4 := by unfold recT; rw [if_pos ⟨hd, h0⟩]
      subst h0
      rw [ht]
      have hv0 : valU o i x 0 = 0 := by rcases hd with rfl | rfl <;> simp [valU]
      rw [hv0]
      clear ht hv0
      rcases hd with rfl | rfl
      all_goals
        go_enter Try.func20, Try.ntmps20
        go_wp2
        go_ret2
        exact ⟨rfl, hB _⟩
    · have ht : recT o y = 0 := by unfold recT; rw [if_neg (by omega)]
      have hr := refDiv_any x y
      have ex := wd_wrap_id hx
      have ey := wd_wrap_id hy
      have HD : Hid (∀ w, Calls Try.prog 34 #[.int .i64 x, .int .i64 y] w fun e w' => e = .returned (.tuple #[.int .i64 (wrap32 (x.tdiv y)), .int .i64 (x.tmod y)]) ∧ w' = w) := hidm (fun w => by
        have := refDiv_any x y w (by omega) (by omega) (by omega) (by omega) (by rw [ey]; exact h0)
        rw [ex, ey] at this
        exact this)
      have hm := tmod_wd hx hy h0
      have h0' : (y == 0) = false := by simpa using h0
      rw [ht]
      clear ex ey ht hr
      rcases hd with rfl | rfl
      · have hv : valU 4 i x y = wrap32 (x.tdiv y) := by simp [valU, h0]
        rw [hv]
        clear hv
        go_enter Try.func20, Try.ntmps20
        go_wp2_with (go_at_call 34; refine (Hid.out HD _).mono ?_; rintro e w' ⟨rfl, rfl⟩)
        go_ret2
        exact ⟨rfl, hB _⟩
      · have hv : valU 5 i x y = x.tmod y := by simp [valU, h0]
        rw [hv]
        clear hv
        go_enter Try.func20, Try.ntmps20
        go_wp2_with (go_at_call 34; refine (Hid.out HD _).mono ?_; rintro e w' ⟨rfl, rfl⟩)
        go_ret2
        exact ⟨rfl, hB _⟩
  · have ht : recT o y = 0 := by unfold recT; rw [if_neg (by omega)]
    rw [ht]
    clear ht
    have HM : Hid (∀ w, Calls Try.prog 33 #[.int .i64 x, .int .i64 y] w fun e w' => e = .returned (.int .i64 (wrap32 (x * y))) ∧ w' = w) := hidm (fun w => refMul_any x y w (by omega) (by omega) (by omega) (by omega))
    have hs : o = 1 ∨ o = 2 ∨ o = 3 ∨ o = 6 ∨ o = 7 ∨ o = 8 ∨ o = 9 ∨ o = 10 ∨ o = 11 := by omega
    clear hd ho
    rcases hs with rfl | rfl | rfl | rfl | rfl | rfl | rfl | rfl | rfl
    · have e : valU 1 i x y = x + y := rfl
      rw [e]
      clear e
      go_enter Try.func20, Try.ntmps20
      go_wp2
      go_ret2
      exact ⟨rfl, hB _⟩
    · have e : valU 2 i x y = x - y := rfl
      rw [e]
      clear e
      go_enter Try.func20, Try.ntmps20
      go_wp2
      go_ret2
      exact ⟨rfl, hB _⟩
    · have e : valU 3 i x y = wrap32 (x * y) := rfl
      rw [e]
      clear e
      go_enter Try.func20, Try.ntmps20
      go_wp2_with (go_at_call 33; refine (Hid.out HM _).mono ?_; rintro e w' ⟨rfl, rfl⟩)
      go_ret2
      exact ⟨rfl, hB _⟩
    · have e : valU 6 i x y = ((opV false x y).toNat : Int) := rfl
      rw [e]
      clear e
      go_enter Try.func20, Try.ntmps20
      go_wp2_with (go_at_call 35; refine (bits_any false x y _ hx hy).mono ?_; rintro e w' ⟨rfl, rfl⟩)
      go_ret2
      exact ⟨rfl, hB _⟩
    · have e : valU 7 i x y = ((opV true x y).toNat : Int) := rfl
      rw [e]
      clear e
      go_enter Try.func20, Try.ntmps20
      go_wp2_with (go_at_call 35; refine (bits_any true x y _ hx hy).mono ?_; rintro e w' ⟨rfl, rfl⟩)
      go_ret2
      exact ⟨rfl, hB _⟩
    · by_cases hxy : x < y
      · have e : valU 8 i x y = 1 := by simp [valU, hxy]
        rw [e]
        clear e
        go_enter Try.func20, Try.ntmps20
        go_wp2
        go_ret2
        exact ⟨rfl, hB _⟩
      · have e : valU 8 i x y = 0 := by simp [valU, hxy]
        rw [e]
        clear e
        go_enter Try.func20, Try.ntmps20
        go_wp2
        go_ret2
        exact ⟨rfl, hB _⟩
    · by_cases hxy : x = y
      · have e : valU 9 i x y = 1 := by simp [valU, hxy]
        rw [e]
        have hxy' : (x == y) = true := by simpa using hxy
        clear e hxy
        go_enter Try.func20, Try.ntmps20
        go_wp2
        go_ret2
        exact ⟨rfl, hB _⟩
      · have e : valU 9 i x y = 0 := by simp [valU, hxy]
        rw [e]
        have hxy' : (x == y) = false := by simpa using hxy
        clear e hxy
        go_enter Try.func20, Try.ntmps20
        go_wp2
        go_ret2
        exact ⟨rfl, hB _⟩
    · have e : valU 10 i x y = x + i := rfl
      rw [e]
      clear e
      go_enter Try.func20, Try.ntmps20
      go_wp2
      go_ret2
      exact ⟨rfl, hB _⟩
    · have e : valU 11 i x y = 65536 * i := rfl
      rw [e]
      clear e
      go_enter Try.func20, Try.ntmps20
      go_wp2
      go_ret2
      exact ⟨rfl, hB _⟩
set_option maxHeartbeats 1000000 in
theorem reckonX (o a b c i x y : Int) (W : World) (hr : rightB o a b c i = true) (ho : reckonsB o = true) :
    Calls Try.prog 18 #[.agg #[.int .i64 o, .int .i64 a, .int .i64 b, .int .i64 c, .int .i64 i], .int .i64 x, .int .i64 y] W fun e W' => e = .returned (.tuple #[.int .i64 (recV o i (wrap32 x) (wrap32 y)), .int .i64 (recT o (wrap32 y)), .bool true]) ∧ Bel W W' := by
  have ho' : 1 ≤ o ∧ o ≤ 11 := by simpa [reckonsB] using ho
  have HR : Hid (∀ w, Calls Try.prog 29 #[.agg #[.int .i64 o, .int .i64 a, .int .i64 b, .int .i64 c, .int .i64 i]] w fun e w' => e = .returned (.bool true) ∧ Bel w w') := hidm (fun w => by
    have := right_any o a b c i w
    rw [hr] at this
    exact this)
  have HK : Hid (∀ w, Calls Try.prog 30 #[.agg #[.int .i64 o, .int .i64 a, .int .i64 b, .int .i64 c, .int .i64 i], .int .i64 (wrap32 x), .int .i64 (wrap32 y)] w fun e w' => e = .returned (.tuple #[.int .i64 (recV o i (wrap32 x) (wrap32 y)), .int .i64 (recT o (wrap32 y))]) ∧ Bel w w') := hidm (fun w => reckon_any o a b c i (wrap32 x) (wrap32 y) w ho' (wd_wrap x) (wd_wrap y))
  clear hr ho'
  go_enter Try.func18, Try.ntmps18
  go_wp2_with (first
    | (go_at_call 28; refine (reckons_any _ _).mono ?_; rintro e w' ⟨rfl, rfl⟩; rw [ho])
    | (go_at_call 29; refine (Hid.out HR _).mono ?_; rintro e w2 ⟨rfl, b2⟩))
  have hB : Bel W w2 := btrans ((Bel.refl W).alloc _) b2
  have hbx : w2.heap[W.heap.size]? = some (.cells #[.int .i64 o, .int .i64 a, .int .i64 b, .int .i64 c, .int .i64 i] 34 (0, 0)) := (b2.out.block _ (by simp)).trans (heap_new W _)
  have lb := lt_of_heap hbx
  have c0 := later_cell (cell_of hbx 0) lb
  have c1 := later_cell (cell_of hbx 1) lb
  have c2 := later_cell (cell_of hbx 2) lb
  have c3 := later_cell (cell_of hbx 3) lb
  have c4 := later_cell (cell_of hbx 4) lb
  clear b2 hbx
  haveI := Later.ne w2
  obtain ⟨u1, e1⟩ := later_start w2
  rw [← e1]
  clear e1
  refine wp_region_later (by kernel_rfl) (by kernel_rfl) ?_
  repeat (go_big_quiet_step (first | (go_at_call 31; exact later_of ((wrap_any _ _).mono fun e w' ⟨h1, h2⟩ => ⟨h1, by rw [h2]; exact Bel.refl _⟩)) | (go_at_call 30; exact later_of (Hid.out HK _))))
  refine wpQuiet_nil ?_
  rintro _ ⟨u2, rfl⟩
  go_wp2
  go_ret3
  exact ⟨rfl, btrans hB u2.is_⟩
theorem reckon_no (o a b c i x y : Int) (W : World) (h : rightB o a b c i = false ∨ reckonsB o = false) :
    Calls Try.prog 18 #[.agg #[.int .i64 o, .int .i64 a, .int .i64 b, .int .i64 c, .int .i64 i], .int .i64 x, .int .i64 y] W fun e W' => e = .returned (.tuple #[.int .i64 0, .int .i64 0, .bool false]) ∧ Bel W W' := by
  have hB : Bel W (W.alloc (.cells #[.int .i64 o, .int .i64 a, .int .i64 b, .int .i64 c, .int .i64 i] 34)) := (Bel.refl W).alloc _
  cases ho : reckonsB o with
  | false =>
    go_enter Try.func18, Try.ntmps18
    go_wp2_with (first
      | (go_at_call 28; refine (reckons_any _ _).mono ?_; rintro e w' ⟨rfl, rfl⟩; rw [ho]))
    go_ret3
    exact ⟨rfl, hB⟩
  | true =>
    have hr : rightB o a b c i = false := by
      rcases h with h | h
      · exact h
      · rw [ho] at h; cases h
    have HR : Hid (∀ w, Calls Try.prog 29 #[.agg #[.int .i64 o, .int .i64 a, .int .i64 b, .int .i64 c, .int .i64 i]] w fun e w' => e = .returned (.bool false) ∧ Bel w w') := hidm (fun w => by
      have := right_any o a b c i w
      rw [hr] at this
      exact this)
    clear hr h
    go_enter Try.func18, Try.ntmps18
    go_wp2_with (first
      | (go_at_call 28; refine (reckons_any _ _).mono ?_; rintro e w' ⟨rfl, rfl⟩; rw [ho])
      | (go_at_call 29; refine (Hid.out HR _).mono ?_; rintro e w2 ⟨rfl, b2⟩))
    go_ret3
    exact ⟨rfl, btrans hB b2⟩
end Go.Proofs.Ytmgpfhmodjmcdaa
