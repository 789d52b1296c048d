/-
  The contracts of package text's read and Parse.
-/
import Derived.Test.YtbkmdmmcjaanmaaDoorTx
import Derived.Laws.StructEq
namespace Go.Proofs.YtbkmdmmcjaanmaaDoor
set_option maxRecDepth 20000
open Go.ChangeShapes Go.WideShapes Go.ChangeAt Go.RowKit
open Go.Lib hiding intOf

def restN (l : List UInt8) : Nat → List UInt8
  | 0 => l
  | k + 1 => (cutN (restN l k)).2
def cellN (l : List UInt8) (k j : Nat) : Int := if j < k then (cutN (restN l j)).1 else 0
theorem cellN_ne (l : List UInt8) {k j : Nat} (h : j ≠ k) : cellN l (k + 1) j = cellN l k j := by
  unfold cellN
  by_cases h1 : j < k
  · rw [if_pos h1, if_pos (by omega)]
  · rw [if_neg h1, if_neg (by omega)]
theorem cellN_eq (l : List UInt8) (k : Nat) : cellN l (k + 1) k = (cutN (restN l k)).1 := by
  unfold cellN; rw [if_pos (by omega)]
theorem step_cells {w4 : World} {A k : Nat} {l : List UInt8} (hk : k < 3) (hc : ∀ j, j < 3 → w4.cell? ⟨A, j, none⟩ = some (.int .i64 (cellN l k j)) ∧ w4.frozen? ⟨A, j, none⟩ = false) :
    ∀ j, j < 3 → (w4.setCell ⟨A, k, none⟩ (.int .i64 (cutN (restN l k)).1)).cell? ⟨A, j, none⟩ = some (.int .i64 (cellN l (k + 1) j)) ∧ (w4.setCell ⟨A, k, none⟩ (.int .i64 (cutN (restN l k)).1)).frozen? ⟨A, j, none⟩ = false := by
  intro j hj
  refine ⟨?_, by rw [World.frozen?_setCell]; exact (hc j hj).2⟩
  by_cases h : j = k
  · subst h
    rw [World.cell?_setCell_same' _ _ _ (by rw [(hc j hj).1]; rfl), cellN_eq]
  · have hne : (⟨A, k, none⟩ : Addr) ≠ ⟨A, j, none⟩ := by intro e; injection e with _ e; exact h e.symm
    have e := World.cell?_setCell_other w4 _ _ (.int .i64 (cutN (restN l k)).1) hne
    rw [e, cellN_ne l h]
    exact (hc j hj).1
theorem boxed5 {w4 wr : World} {x0 x1 x2 x3 x4 : Int} {T : TypeId} (h4 : Bel (wr.alloc (.cells #[.int .i64 x0, .int .i64 x1, .int .i64 x2, .int .i64 x3, .int .i64 x4] T)) w4) :
    w4.cell? ⟨wr.heap.size, 0, none⟩ = some (.int .i64 x0) ∧ w4.cell? ⟨wr.heap.size, 1, none⟩ = some (.int .i64 x1) ∧ w4.cell? ⟨wr.heap.size, 2, none⟩ = some (.int .i64 x2) ∧ w4.cell? ⟨wr.heap.size, 3, none⟩ = some (.int .i64 x3) ∧ w4.cell? ⟨wr.heap.size, 4, none⟩ = some (.int .i64 x4) ∧
    w4.frozen? ⟨wr.heap.size, 0, none⟩ = false ∧ w4.frozen? ⟨wr.heap.size, 1, none⟩ = false ∧ w4.frozen? ⟨wr.heap.size, 2, none⟩ = false ∧ w4.frozen? ⟨wr.heap.size, 3, none⟩ = false ∧ w4.frozen? ⟨wr.heap.size, 4, none⟩ = false := by
  have hs : wr.heap.size < (wr.alloc (.cells #[.int .i64 x0, .int .i64 x1, .int .i64 x2, .int .i64 x3, .int .i64 x4] T)).heap.size := by simp
  refine ⟨?_, ?_, ?_, ?_, ?_, ?_, ?_, ?_, ?_, ?_⟩ <;> first | (rw [(bcell h4).1 _ _ hs]; go_simp) | (rw [(bcell h4).2 _ _ hs]; go_simp)
theorem old_cell {w4 wr : World} {o : Obj} {b j : Nat} {v : Value} (h4 : Bel (wr.alloc o) w4) (hb : b < wr.heap.size) (h : wr.cell? ⟨b, j, none⟩ = some v ∧ wr.frozen? ⟨b, j, none⟩ = false) : w4.cell? ⟨b, j, none⟩ = some v ∧ w4.frozen? ⟨b, j, none⟩ = false := by
  have h' := btrans ((Bel.refl wr).alloc o) h4
  rw [(bcell h').1 _ _ hb, (bcell h').2 _ _ hb]
  exact h
theorem ret_agg5 {a a' b b' c c' d d' e e' : Int} (h1 : a = a') (h2 : b = b') (h3 : c = c') (h4 : d = d') (h5 : e = e') :
    Ending.returned (.agg #[.int .i64 a, .int .i64 b, .int .i64 c, .int .i64 d, .int .i64 e]) = .returned (.agg #[.int .i64 a', .int .i64 b', .int .i64 c', .int .i64 d', .int .i64 e']) := by rw [h1, h2, h3, h4, h5]
theorem rest_len (l : List UInt8) : ∀ k, (restN l k).length ≤ l.length
  | 0 => Nat.le_refl _
  | k + 1 => Nat.le_trans (cutN_len _) (rest_len l k)
theorem read_is (l : List UInt8) (R : Nat) (h : R ≤ 3) : readR (R : Int) l = (cellN l R 0, cellN l R 1, cellN l R 2, restN l R) := by
  have : R = 0 ∨ R = 1 ∨ R = 2 ∨ R = 3 := by omega
  rcases this with rfl | rfl | rfl | rfl <;> rfl
set_option maxHeartbeats 2000000 in
set_option maxRecDepth 20000 in
theorem read_any (op : Int) (l : List UInt8) (w : World) (g : Gl w) (hl : l.length ≤ 281474976710656) :
    Calls Tryd.prog 24 #[.int .i64 op, .string (bs l)] w fun e w' => e = .returned (.agg #[.int .i64 op, .int .i64 (readL op l).a, .int .i64 (readL op l).b, .int .i64 (readL op l).c, .int .i64 (readL op l).i]) ∧ Bel w w' := by
  obtain ⟨R, hR, hR3⟩ : ∃ R : Nat, regsOf op = (R : Int) ∧ R ≤ 3 := ⟨(regsOf op).toNat, by have := regs_bd op; omega, by have := regs_bd op; omega⟩
  have hra : Hid ((readL op l).a = cellN l R 0 ∧ (readL op l).b = cellN l R 1 ∧ (readL op l).c = cellN l R 2 ∧ (readL op l).i = if immB op then (cutN (restN l R)).1 else 0) := by
    show _ ∧ _
    unfold readL readI; rw [hR, read_is l R hR3]; exact ⟨rfl, rfl, rfl, rfl⟩
  go_enter Tryd.func24, Tryd.ntmps24
  go_wp2_with (go_at_call 18; refine (form_any _ _).mono ?_; rintro e w1 ⟨rfl, h1⟩; rw [hR])
  have hB2 : Bel w (w1.alloc (Obj.cells #[.string (bs (nameL op)), .int .i64 R, .bool (immB op)] 37)) := (btrans ((Bel.refl w).alloc _) h1).alloc _
  have hsz1 : w.heap.size < w1.heap.size := by have := h1.size; simp at this; omega
  have hC : Hid (∀ j : Nat, j < 3 → ((w1.alloc (Obj.cells #[.string (bs (nameL op)), .int .i64 R, .bool (immB op)] 37)).alloc (Obj.cells #[.int .i64 0, .int .i64 0, .int .i64 0] 40)).cell? ⟨w1.heap.size + 1, j, none⟩ = some (.int .i64 0) ∧ ((w1.alloc (Obj.cells #[.string (bs (nameL op)), .int .i64 R, .bool (immB op)] 37)).alloc (Obj.cells #[.int .i64 0, .int .i64 0, .int .i64 0] 40)).frozen? ⟨w1.heap.size + 1, j, none⟩ = false) := by
    intro j hj
    have : j = 0 ∨ j = 1 ∨ j = 2 := by omega
    rcases this with rfl | rfl | rfl <;> go_simp
  have q0 : ∀ u : Later (w1.alloc (Obj.cells #[.string (bs (nameL op)), .int .i64 R, .bool (immB op)] 37)), u.at_.cell? ⟨w1.heap.size, 2, none⟩ = some (.bool (immB op)) := later_cell (by go_simp) (by simp)
  have q1 : ∀ j : Nat, j < 5 → ∀ u : Later (w1.alloc (Obj.cells #[.string (bs (nameL op)), .int .i64 R, .bool (immB op)] 37)), u.at_.cell? ⟨w.heap.size, j, none⟩ = some (.int .i64 0) ∧ u.at_.frozen? ⟨w.heap.size, j, none⟩ = false := by
    intro j hj u
    have hb := btrans h1 (btrans ((Bel.refl w1).alloc _) u.is_)
    rw [(bcell hb).1 _ _ (by simp), (bcell hb).2 _ _ (by simp)]
    have : j = 0 ∨ j = 1 ∨ j = 2 ∨ j = 3 ∨ j = 4 := by omega
    rcases this with rfl | rfl | rfl | rfl | rfl <;> go_simp
  have HA : Hid (w1.heap.size + 1 = (w1.alloc (Obj.cells #[.string (bs (nameL op)), .int .i64 R, .bool (immB op)] 37)).heap.size) := by show _ = _; simp
  generalize w1.alloc (Obj.cells #[.string (bs (nameL op)), .int .i64 R, .bool (immB op)] 37) = w2 at hB2 q0 q1 HA hC ⊢
  have g2 := g.stay hB2
  clear h1
  generalize w1.heap.size = F at q0 HA hC hsz1 ⊢
  go_loopw [1, 13] (fun s i wr => ∃ k : Nat, k ≤ R ∧ i = .int .i64 k ∧ s = .string (bs (restN l k)) ∧ Bel w2 wr ∧ F + 1 < wr.heap.size ∧ ∀ j : Nat, j < 3 → wr.cell? ⟨F + 1, j, none⟩ = some (.int .i64 (cellN l k j)) ∧ wr.frozen? ⟨F + 1, j, none⟩ = false) (fun _ i _ => R - (intOf i).toNat)
  case atStart => exact ⟨0, Nat.zero_le _, rfl, rfl, (Bel.refl _).alloc _, by simp; have := HA.out; omega, fun j hj => by have := hC.out j hj; simpa [cellN] using this⟩
  case round =>
    obtain ⟨k, hk, rfl, rfl, hb, hz, hcs⟩ := hrel
    have hlk := Nat.le_trans (rest_len l k) hl
    by_cases hlt : k < R
    · obtain ⟨a0, z0⟩ := hcs 0 (by omega)
      obtain ⟨a1, z1⟩ := hcs 1 (by omega)
      obtain ⟨a2, z2⟩ := hcs 2 (by omega)
      have hk3 : k = 0 ∨ k = 1 ∨ k = 2 := by omega
      have hrk : Hid (restN l (k + 1) = (cutN (restN l k)).2) := rfl
      have HC : Hid _ := hcs
      clear hcs
      rename World => wr
      rcases hk3 with rfl | rfl | rfl
      all_goals
        go_wp2_with (go_at_call 34; refine (cutNum_any _ _ (g2.stay hb) hlk).mono ?_; rintro e w4 ⟨rfl, h4⟩; have hz4 := Nat.lt_of_lt_of_le hz h4.size; have a0' := ((bcell h4).1 _ 0 hz).trans a0; have a1' := ((bcell h4).1 _ 1 hz).trans a1; have a2' := ((bcell h4).1 _ 2 hz).trans a2; have z0' := ((bcell h4).2 _ 0 hz).trans z0; have z1' := ((bcell h4).2 _ 1 hz).trans z1; have z2' := ((bcell h4).2 _ 2 hz).trans z2)
        go_roundw
        case rel => exact ⟨_ + 1, by omega, by go_num, rfl, (btrans hb h4).setCell (by have := HA.out; show _ ≤ F + 1; omega) _, by simp; omega, step_cells (by omega) fun j hj => ⟨((bcell h4).1 _ j hz).trans (HC.out j hj).1, ((bcell h4).2 _ j hz).trans (HC.out j hj).2⟩⟩
        case measure => simp [intOf]; omega
    · have hkR : R = k := by omega
      subst hkR
      obtain ⟨a0, z0⟩ := hcs 0 (by omega)
      obtain ⟨a1, z1⟩ := hcs 1 (by omega)
      obtain ⟨a2, z2⟩ := hcs 2 (by omega)
      rename World => wr
      have p2 := q0 ⟨wr, hb⟩
      have s0 := q1 0 (by omega) ⟨wr, hb⟩
      have s1 := q1 1 (by omega) ⟨wr, hb⟩
      have s2 := q1 2 (by omega) ⟨wr, hb⟩
      have s3 := q1 3 (by omega) ⟨wr, hb⟩
      have s4 := q1 4 (by omega) ⟨wr, hb⟩
      have hBr := btrans hB2 hb
      have hgr := g2.stay hb
      have hzw : w.heap.size < wr.heap.size := by omega
      have hzF : F < wr.heap.size := by omega
      clear q0 q1 hcs hC HA z0 z1 z2
      simp only at p2 s0 s1 s2 s3 s4
      cases hI : immB op with
      | false =>
        rw [hI] at p2
        go_wp2
        have hG := hBr
        refine bodyPost_ret (v := ?_) ?_ rfl ⟨?_, ?_⟩
        rotate_left 1
        · simp only [results, Tryd.results24]; go_simp; rfl
        · obtain ⟨r1, r2, r3, r4⟩ := hra.out
          exact ret_agg5 rfl r1.symm r2.symm r3.symm (by rw [r4, hI]; rfl)
        · repeat (first | with_reducible exact hG | with_reducible apply Bel.alloc | (with_reducible refine Bel.setCell ?_ ?_ _; rotate_left 1; (simp <;> omega)))
      | true =>
        rw [hI] at p2
        go_wp2_with (go_at_call 34; refine (cutNum_any _ _ (hgr.alloc _) hlk).mono ?_; rintro e w4 ⟨rfl, h4⟩; have hz4 := h4.size; have hbx := boxed5 h4; have t0 := old_cell h4 hzw s0; have t1 := old_cell h4 hzw s1; have t2 := old_cell h4 hzw s2; have t3 := old_cell h4 hzw s3; have t4 := old_cell h4 hzw s4)
        have hG := btrans (hBr.alloc _) h4
        refine bodyPost_ret (v := ?_) ?_ rfl ⟨?_, ?_⟩
        rotate_left 1
        · simp only [results, Tryd.results24]; go_simp; rfl
        · obtain ⟨r1, r2, r3, r4⟩ := hra.out
          exact ret_agg5 rfl r1.symm r2.symm r3.symm (by rw [r4, hI]; rfl)
        · repeat (first | with_reducible exact hG | with_reducible apply Bel.alloc | (with_reducible refine Bel.setCell ?_ ?_ _; rotate_left 1; (simp <;> omega)))

def insV (x : Ins) : Value := .agg #[.int .i64 x.o, .int .i64 x.a, .int .i64 x.b, .int .i64 x.c, .int .i64 x.i]
theorem text_any (op a b c imm : Int) (w : World) (g : Gl w) :
    Calls Tryd.prog 9 #[.agg #[.int .i64 op, .int .i64 a, .int .i64 b, .int .i64 c, .int .i64 imm]] w fun e w' => e = .returned (.string (bs (textL op a b c imm))) ∧ Bel w w' := by
  cases hr : rightB op a b c imm
  · exact text_no op a b c imm w hr
  · exact text_yes op a b c imm w g hr
end Go.Proofs.YtbkmdmmcjaanmaaDoor
