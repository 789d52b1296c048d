/-
  The contract of the reference's Far.
-/
import Derived.Test.YtpmofaajkhllpaaAn
import Derived.Test.YtpmofaajkhllpaaRef3
import Derived.Test.YtpmofaajkhllpaaLater
namespace Go.Proofs.Ytpmofaajkhllpaa
set_option maxRecDepth 20000
set_option linter.unusedVariables false
open Go.ChangeShapes Go.WideShapes Go.ChangeAt Go.RowKit

/-- What the reference asks of register n. -/
def one1 (x y : Ins) (n : Int) : Bool := ((x.wr == n) && (y.wr == n)) || ((x.wr == n) && y.rds n) || ((y.wr == n) && x.rds n)
def one2 (x y : Ins) (n : Int) : Bool := x.late && (x.wr == n) && y.rds n
def far1 (x y : Ins) (k : Nat) : Bool := (x.act && y.act) || (List.range k).any fun i => one1 x y ((i : Int) + 1)
def far2 (x y : Ins) (k : Nat) : Bool := (List.range k).any fun i => one2 x y ((i : Int) + 1)
theorem far1_zero (x y : Ins) : far1 x y 0 = (x.act && y.act) := by simp [far1]
theorem far2_zero (x y : Ins) : far2 x y 0 = false := by simp [far2]
theorem far1_succ (x y : Ins) (k : Nat) : far1 x y (k + 1) = (far1 x y k || one1 x y ((k : Int) + 1)) := by
  simp [far1, List.range_succ, Bool.or_assoc]
theorem far2_succ (x y : Ins) (k : Nat) : far2 x y (k + 1) = (far2 x y k || one2 x y ((k : Int) + 1)) := by
  simp [far2, List.range_succ]
theorem far1_all (x y : Ins) : far1 x y 31 = anyI x y := by
  have hx := ins_bd x
  have hy := ins_bd y
  rw [Bool.eq_iff_iff, anyI_iff]
  unfold far1
  rw [Bool.or_eq_true, Bool.and_eq_true, List.any_eq_true]
  simp only [one1, Bool.or_eq_true, Bool.and_eq_true, beq_iff_eq, rds_iff, List.mem_range]
  constructor
  · rintro (h | ⟨i, hi, h⟩)
    · exact .inl h
    · right
      omega
  · rintro (h | h | h | h)
    · exact .inl h
    · exact .inr ⟨(x.wr - 1).toNat, by omega, by omega⟩
    · exact .inr ⟨(x.wr - 1).toNat, by omega, by omega⟩
    · exact .inr ⟨(y.wr - 1).toNat, by omega, by omega⟩
theorem far2_all (x y : Ins) : far2 x y 31 = (x.late && y.rds x.wr) := by
  have hx := ins_bd x
  rw [Bool.eq_iff_iff]
  unfold far2
  rw [List.any_eq_true]
  simp only [one2, Bool.and_eq_true, beq_iff_eq, List.mem_range]
  constructor
  · rintro ⟨i, hi, ⟨h1, h2⟩, h3⟩
    rw [h2]
    exact ⟨h1, h3⟩
  · rintro ⟨h1, h2⟩
    have h3 := (rds_iff _ _).1 h2
    have e : (((x.wr - 1).toNat : Nat) : Int) + 1 = x.wr := by omega
    exact ⟨(x.wr - 1).toNat, by omega, ⟨h1, e.symm⟩, by rw [e]; exact h2⟩
def farN (a b : Bool) : Int := if b = true then 2 else if a = true then 1 else 0
theorem farN_all (x y : Ins) : farN (far1 x y 31) (far2 x y 31) = farI x y := by
  rw [far1_all, far2_all]
  unfold farN farI
  by_cases h : x.late = true ∧ y.rds x.wr = true
  · rw [if_pos h, if_pos (by rw [h.1, h.2]; rfl)]
  · rw [if_neg h, if_neg (by rw [Bool.and_eq_true]; exact h)]
theorem ret_rds {x : Ins} {n : Int} (w : World) : Calls Try.prog 33 #[.agg #[.int .i64 x.o, .int .i64 x.a, .int .i64 x.b, .int .i64 x.c, .int .i64 x.i], .int .i64 n] w fun e w' => e = .returned (.bool (x.rds n)) ∧ Bel w w' := refReads_any x.o x.a x.b x.c x.i n w
theorem ret_wr {x : Ins} (w : World) : Calls Try.prog 32 #[.agg #[.int .i64 x.o, .int .i64 x.a, .int .i64 x.b, .int .i64 x.c, .int .i64 x.i]] w fun e w' => e = .returned (.int .i64 x.wr) ∧ Bel w w' := refWrites_any x.o x.a x.b x.c x.i w
theorem ret_act {x : Ins} (w : World) : Calls Try.prog 31 #[.agg #[.int .i64 x.o, .int .i64 x.a, .int .i64 x.b, .int .i64 x.c, .int .i64 x.i]] w fun e w' => e = .returned (.bool x.act) ∧ Bel w w' := refActs_any x.o x.a x.b x.c x.i w
theorem ret_late {x : Ins} (w : World) : Calls Try.prog 19 #[.agg #[.int .i64 x.o, .int .i64 x.a, .int .i64 x.b, .int .i64 x.c, .int .i64 x.i]] w fun e w' => e = .returned (.bool x.late) ∧ Bel w w' := refLate_any x.o x.a x.b x.c x.i w

theorem farN_one (a c : Bool) : farN (a || c) false = if c = true then 1 else farN a false := by cases a <;> cases c <;> rfl
theorem farN_two (g a c : Bool) : farN g (a || c) = if c = true then 2 else farN g a := by cases g <;> cases a <;> cases c <;> rfl
theorem one1_cases (x y : Ins) (n : Int) :
    ((x.wr == n) = true ∧ (y.wr == n) = true ∧ one1 x y n = true) ∨ ((x.wr == n) = true ∧ (y.wr == n) = false ∧ y.rds n = true ∧ one1 x y n = true) ∨ ((x.wr == n) = true ∧ (y.wr == n) = false ∧ y.rds n = false ∧ one1 x y n = false) ∨
    ((x.wr == n) = false ∧ (y.wr == n) = true ∧ x.rds n = true ∧ one1 x y n = true) ∨ ((x.wr == n) = false ∧ (y.wr == n) = true ∧ x.rds n = false ∧ one1 x y n = false) ∨ ((x.wr == n) = false ∧ (y.wr == n) = false ∧ one1 x y n = false) := by
  unfold one1
  cases (x.wr == n) <;> cases (y.wr == n) <;> cases (y.rds n) <;> cases (x.rds n) <;> simp
theorem one2_cases (x y : Ins) (n : Int) :
    (x.late = false ∧ one2 x y n = false) ∨ (x.late = true ∧ (x.wr == n) = false ∧ one2 x y n = false) ∨ (x.late = true ∧ (x.wr == n) = true ∧ y.rds n = false ∧ one2 x y n = false) ∨ (x.late = true ∧ (x.wr == n) = true ∧ y.rds n = true ∧ one2 x y n = true) := by
  unfold one2
  cases x.late <;> cases (x.wr == n) <;> cases (y.rds n) <;> simp

set_option maxHeartbeats 4000000 in
theorem refFar_any (x y : Ins) (w : World) :
    Calls Try.prog 20 #[x.val, y.val] w fun e w' => e = .returned (.int .i64 (farI x y)) ∧ Bel w w' := by
  have HF := hidm (farN_all x y)
  have H10 := hidm (far1_zero x y)
  have H20 := hidm (far2_zero x y)
  have H1 := hidm (far1_succ x y)
  have H2 := hidm (far2_succ x y)
  unfold Ins.val
  obtain ⟨b0, b1, b2, b3, b4⟩ := box5 (w.alloc (Obj.cells #[.int .i64 x.o, .int .i64 x.a, .int .i64 x.b, .int .i64 x.c, .int .i64 x.i] 30)) y.o y.a y.b y.c y.i 30
  rw [World.size_alloc] at b0 b1 b2 b3 b4
  have hx0 : ((w.alloc (Obj.cells #[.int .i64 x.o, .int .i64 x.a, .int .i64 x.b, .int .i64 x.c, .int .i64 x.i] 30)).alloc (Obj.cells #[.int .i64 y.o, .int .i64 y.a, .int .i64 y.b, .int .i64 y.c, .int .i64 y.i] 30)).heap[w.heap.size]? = some (Obj.cells #[.int .i64 x.o, .int .i64 x.a, .int .i64 x.b, .int .i64 x.c, .int .i64 x.i] 30) := heap_old (heap_new _ _)
  obtain ⟨a0, a1, a2, a3, a4⟩ := box_cells hx0
  have hs := lt_of_heap hx0
  have A0 := later_cell a0 hs
  have A1 := later_cell a1 hs
  have A2 := later_cell a2 hs
  have A3 := later_cell a3 hs
  have A4 := later_cell a4 hs
  clear a0 a1 a2 a3 a4 hx0 hs
  have hB : Bel w ((w.alloc (Obj.cells #[.int .i64 x.o, .int .i64 x.a, .int .i64 x.b, .int .i64 x.c, .int .i64 x.i] 30)).alloc (Obj.cells #[.int .i64 y.o, .int .i64 y.a, .int .i64 y.b, .int .i64 y.c, .int .i64 y.i] 30)) := ((Bel.refl w).alloc _).alloc _
  go_enter Try.func20, Try.ntmps20
  go_wp2_with (go_at_call 31; refine Hid.out ?_)
  generalize ((w.alloc (Obj.cells #[.int .i64 x.o, .int .i64 x.a, .int .i64 x.b, .int .i64 x.c, .int .i64 x.i] 30)).alloc (Obj.cells #[.int .i64 y.o, .int .i64 y.a, .int .i64 y.b, .int .i64 y.c, .int .i64 y.i] 30)) = wB at hB A0 A1 A2 A3 A4 b0 b1 b2 b3 b4 ⊢
  haveI := Later.ne wB
  obtain ⟨u1, e1⟩ := later_start wB
  rw [← e1]
  clear e1
  refine hidm ?_
  have H1' : Hid (∀ k, farN (far1 x y (k + 1)) false = if one1 x y ((k : Int) + 1) = true then 1 else farN (far1 x y k) false) := fun k => by rw [H1.out]; exact farN_one _ _
  have H2' : Hid (∀ g k, farN g (far2 x y (k + 1)) = if one2 x y ((k : Int) + 1) = true then 2 else farN g (far2 x y k)) := fun g k => by rw [H2.out]; exact farN_two _ _ _
  have C1 := hidm (one1_cases x y)
  have C2 := hidm (one2_cases x y)
  clear H1 H2
  have three : (x.act = false ∧ farN (far1 x y 0) false = 0) ∨ (x.act = true ∧ y.act = false ∧ farN (far1 x y 0) false = 0) ∨ (x.act = true ∧ y.act = true ∧ farN (far1 x y 0) false = 1) := by
    rw [H10.out]
    cases x.act <;> cases y.act <;> simp [farN]
  clear H10
  have hact : ∀ (z : Ins) (ww : World), Calls Try.prog 31 #[.agg #[.int .i64 z.o, .int .i64 z.a, .int .i64 z.b, .int .i64 z.c, .int .i64 z.i]] ww fun e w' => e = .returned (.bool z.act) ∧ Bel ww w' := fun z ww => ret_act ww
  rcases three with ⟨q1, q3⟩ | ⟨q1, q2, q3⟩ | ⟨q1, q2, q3⟩
  all_goals
    have Q3 := hidm q3
    clear q3
    go_wp2_with (first
      | (go_at_call 31; have q := tok; refine (later_of (hact y _)).mono ?_; rw [q2]; rintro e _ ⟨rfl, u3, rfl⟩)
      | (go_at_call 31; refine (later_of (hact x _)).mono ?_; rw [q1]; rintro e _ ⟨rfl, u2, rfl⟩; have tok : Hid True := True.intro))
    go_loopw [5, 6] (fun f n wr => ∃ (k : Nat) (u : Later wB), k ≤ 31 ∧ n = .int .i64 ((k : Int) + 1) ∧ f = .int .i64 (farN (far1 x y k) false) ∧ wr = u.at_) (fun _ n _ => 32 - (intOf n).toNat)
    case atStart => exact ⟨0, _, Nat.zero_le _, rfl, by rw [Q3.out], rfl⟩
    case round =>
      obtain ⟨k, u, hk, rfl, rfl, rfl⟩ := hrel
      by_cases hlt : k < 31
      · have HS := hidm (H1'.out k)
        rcases C1.out ((k : Int) + 1) with ⟨d1, d2, d3⟩ | ⟨d1, d2, d4, d3⟩ | ⟨d1, d2, d4, d3⟩ | ⟨d1, d2, d4, d3⟩ | ⟨d1, d2, d4, d3⟩ | ⟨d1, d2, d3⟩
        all_goals
          generalize farN (far1 x y k) false = f at HS ⊢
          have HS' := HS.out
          rw [d3] at HS'
          have HS2 := hidm HS'
          clear HS HS' d3 H1' H2' C1 C2 HF H20
          go_wp2
          refine wp_region_later (by kernel_rfl) (by kernel_rfl) ?_
          repeat (go_big_quiet_step (first | (go_at_call 32; exact later_of (ret_wr _))))
          refine wpQuiet_nil ?_
          rintro _ ⟨u4, rfl⟩
          go_wp2_with (go_at_call 33; refine (later_of (ret_rds _)).mono ?_; rw [d4]; rintro e _ ⟨rfl, u5, rfl⟩)
          go_roundw
          case rel => exact ⟨k + 1, _, by omega, by go_num, by rw [HS2.out]; rfl, rfl⟩
          case measure => simp [intOf]; omega
      · obtain rfl : k = 31 := by omega
        clear H1' C1
        rw [show (((31 : Nat) : Int) + 1) = 32 from rfl]
        have HS := hidm (H2'.out (far1 x y 31))
        have H2Z : Hid (farN (far1 x y 31) (far2 x y 0) = farN (far1 x y 31) false) := by rw [H20.out]; exact rfl
        clear H2' H20
        generalize far1 x y 31 = g at HF HS H2Z ⊢
        go_wp2
        go_loopw [5, 9] (fun f n wr => ∃ (k : Nat) (u : Later wB), k ≤ 31 ∧ n = .int .i64 ((k : Int) + 1) ∧ f = .int .i64 (farN g (far2 x y k)) ∧ wr = u.at_) (fun _ n _ => 32 - (intOf n).toNat)
        case atStart => exact ⟨0, u, Nat.zero_le _, rfl, by rw [H2Z.out], rfl⟩
        case round =>
          obtain ⟨k, v, hk, rfl, rfl, rfl⟩ := hrel
          by_cases hlt : k < 31
          · have HS3 := hidm (HS.out k)
            rcases C2.out ((k : Int) + 1) with ⟨d1, d3⟩ | ⟨d1, d2, d3⟩ | ⟨d1, d2, d4, d3⟩ | ⟨d1, d2, d4, d3⟩
            all_goals
              generalize farN g (far2 x y k) = f at HS3 ⊢
              have HS' := HS3.out
              rw [d3] at HS'
              have HS2 := hidm HS'
              clear HS3 HS' d3 HS C2 HF H2Z
              go_wp2_with (first
                | (go_at_call 19; refine (later_of (ret_late _)).mono ?_; rw [d1]; rintro e _ ⟨rfl, u5, rfl⟩)
                | (go_at_call 32; refine (later_of (ret_wr _)).mono ?_; rintro e _ ⟨rfl, u6, rfl⟩)
                | (go_at_call 33; refine (later_of (ret_rds _)).mono ?_; rw [d4]; rintro e _ ⟨rfl, u7, rfl⟩))
              go_roundw
              case rel => exact ⟨k + 1, _, by omega, by go_num, by rw [HS2.out]; rfl, rfl⟩
              case measure => simp [intOf]; omega
          · obtain rfl : k = 31 := by omega
            go_wp2
            go_ret
            exact ⟨ret_intA HF.out, btrans hB v.is_⟩
end Go.Proofs.Ytpmofaajkhllpaa
