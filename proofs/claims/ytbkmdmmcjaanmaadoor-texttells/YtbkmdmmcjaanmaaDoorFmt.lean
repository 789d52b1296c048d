/-
  Contracts of package text's inner functions: how an operation is written, the operation of a name, the numbers that are read.
-/
import Derived.Test.YtbkmdmmcjaanmaaDoorStr
import Derived.Test.YtbkmdmmcjaanmaaDoorTxt2
namespace Go.Proofs.YtbkmdmmcjaanmaaDoor
set_option maxRecDepth 20000
open Go.ChangeShapes Go.WideShapes Go.ChangeAt Go.RowKit
open Go.Lib hiding intOf

theorem agg3s {a a' : ByteArray} {b b' : Int} {o o' : Bool} (h1 : a = a') (h2 : b = b') (h3 : o = o') :
    Ending.returned (.agg #[.string a, .int .i64 b, .bool o]) = .returned (.agg #[.string a', .int .i64 b', .bool o']) := by rw [h1, h2, h3]
theorem name_other {op : Int} (h : op < 0 ∨ 20 < op) : nameL op = [] ∧ regsOf op = 0 ∧ immB op = false := by
  refine ⟨?_, by unfold regsOf; omega, by unfold immB; simp; omega⟩
  unfold nameL
  split
  · have : names.length ≤ op.toNat := by simp [names]; omega
    simp [List.getD, List.getElem?_eq_none this]
  · rfl
set_option maxHeartbeats 4000000 in
theorem form_any (op : Int) (w : World) :
    Calls Tryd.prog 18 #[.int .i64 op] w fun e w' => e = .returned (.agg #[.string (bs (nameL op)), .int .i64 (regsOf op), .bool (immB op)]) ∧ Bel w w' := by
  go_enter Tryd.func18, Tryd.ntmps18
  go_wp2
  all_goals
    refine bodyPost_ret (v := ?_) ?_ rfl ⟨?_, ?_⟩
    rotate_left 1
    · simp [results, Tryd.results18, go_sem]; rfl
    · simp only [beq_iff_eq, beq_eq_false_iff_ne, ne_eq] at *
      first
        | (subst_vars; exact agg3s rfl (by decide) (by decide))
        | (have ho := name_other (op := op) (by omega); exact agg3s (by rw [ho.1]; rfl) ho.2.1.symm ho.2.2.symm)
    · repeat (first | exact Bel.refl _ | apply Bel.alloc | (refine Bel.setCell ?_ (by simp) _))

theorem namedF_step (l : List UInt8) {k : Nat} (h : k < 21) : namedF l (21 - k) k = if nameL k = l then (k : Int) else namedF l (21 - (k + 1)) (k + 1) := by
  rw [show 21 - k = (21 - (k + 1)) + 1 by omega]
  rfl
theorem namedF_ge (l : List UInt8) : ∀ (f k : Nat), (k : Int) ≤ namedF l f k ∧ namedF l f k ≤ k + f := by
  intro f
  induction f with
  | zero => intro k; simp [namedF]
  | succ f ih =>
    intro k
    unfold namedF
    split
    · omega
    · have := ih (k + 1); omega
def namedV (l : List UInt8) : Int := if namedL l = 21 then 0 else namedL l
theorem named_bd (l : List UInt8) : 0 ≤ namedL l ∧ namedL l ≤ 21 := by
  have := namedF_ge l 21 0
  unfold namedL; omega
theorem ret_ib {a b : Int} {o o' : Bool} (h : a = b) (h' : o = o') : Ending.returned (.tuple #[.int .i64 a, .bool o]) = .returned (.tuple #[.int .i64 b, .bool o']) := by rw [h, h']
set_option maxHeartbeats 1000000 in
theorem named_any (l : List UInt8) (w : World) :
    Calls Tryd.prog 23 #[.string (bs l)] w fun e w' => e = .returned (.tuple #[.int .i64 (namedV l), .bool (decide (namedL l ≠ 21))]) ∧ Bel w w' := by
  have hfd : ∀ (x : ByteArray) (y : Int) (z : Bool) (w : World), (Instr.field 37 (.agg #[.string x, .int .i64 y, .bool z]) 0).run Tryd.prog w = .ok (.string x) w := fun _ _ _ _ => by kernel_rfl
  go_enter Tryd.func23, Tryd.ntmps23
  go_wp2_with fail
  haveI := Later.ne w
  obtain ⟨u1, e0⟩ := later_start w
  rw [← e0]
  clear e0
  go_loopw [4] (fun n wr => ∃ (k : Nat) (u : Later w), k ≤ 21 ∧ n = .int .i64 k ∧ Hid (namedF l (21 - k) k = namedL l) ∧ wr = u.at_) (fun n _ => 21 - (intOf n).toNat)
  case atStart => exact ⟨0, u1, Nat.zero_le _, rfl, rfl, rfl⟩
  case round =>
    obtain ⟨k, u, hk, rfl, hN, rfl⟩ := hrel
    by_cases hlt : k < 21
    · have hs : Hid _ := namedF_step l hlt
      by_cases hq : nameL k = l
      · have hv : Hid (namedL l = k) := by
          show namedL l = k
          rw [← hN.out, hs.out, if_pos hq]
        have hc : ((bs (nameL k)).toList == (bs l).toList) = true := by rw [bs_eq]; simpa using hq
        clear hq hs hN
        go_wp2_with (go_at_call 18; refine (later_of (form_any _ _)).mono ?_; rintro e _ ⟨rfl, u3, rfl⟩)
        go_ret2
        exact ⟨ret_ib (by unfold namedV; rw [hv.out, if_neg (by omega)]) (by rw [hv.out]; simp; omega), u3.is_⟩
      · have hv : Hid (namedF l (21 - (k + 1)) (k + 1) = namedL l) := by
          show namedF l (21 - (k + 1)) (k + 1) = namedL l
          rw [← hN.out, hs.out, if_neg hq]
        have hc : ((bs (nameL k)).toList == (bs l).toList) = false := by rw [bs_eq]; simpa using hq
        clear hq hs hN
        go_wp2_with (go_at_call 18; refine (later_of (form_any _ _)).mono ?_; rintro e _ ⟨rfl, u3, rfl⟩)
        go_roundw
        case rel => exact ⟨k + 1, u3, by omega, by go_num, hv, rfl⟩
        case measure => simp [intOf]; omega
    · have e : k = 21 := by omega
      subst e
      have hv : Hid (namedL l = 21) := hN.out.symm
      clear hN hk hlt
      go_wp2
      go_ret2
      exact ⟨ret_ib (by unfold namedV; rw [hv.out]; rfl) (by rw [hv.out]; rfl), u.is_⟩

theorem ret_is {a b : Int} {s s' : ByteArray} (h : a = b) (h' : s = s') : Ending.returned (.tuple #[.int .i64 a, .string s]) = .returned (.tuple #[.int .i64 b, .string s']) := by rw [h, h']
theorem cut_len (l : List UInt8) (c : UInt8) : (cut l [c]).1.length ≤ l.length ∧ (cut l [c]).2.1.length ≤ l.length := by
  unfold cut
  split
  · simp; omega
  · simp
theorem trim_len (l p : List UInt8) : (trimPrefix l p).length ≤ l.length := by
  unfold trimPrefix
  split
  · simp
  · exact Nat.le_refl _
theorem cutN_len (l : List UInt8) : (cutN l).2.length ≤ l.length := (cut_len l 44).2
set_option maxHeartbeats 1000000 in
theorem cutNum_any (l : List UInt8) (w : World) (g : Gl w) (hl : l.length ≤ 281474976710656) :
    Calls Tryd.prog 34 #[.string (bs l)] w fun e w' => e = .returned (.tuple #[.int .i64 (cutN l).1, .string (bs (cutN l).2)]) ∧ Bel w w' := by
  have h1 := cut_len l 44
  have h2 := trim_len (cut l [44]).1 [114]
  go_enter Tryd.func34, Tryd.ntmps34
  go_wp2_with (first
    | (go_at_call 22; refine (cut_any _ _ _ hl).mono ?_; rintro e w1 ⟨rfl, b1⟩)
    | (go_at_call 40; refine (trim_any _ [114] _).mono ?_; rintro e w2 ⟨rfl, b2⟩)
    | (go_at_call 39; refine (atoi_any _ _ (g.stay (btrans b1 b2)) (by omega)).mono ?_; rintro e w3 ⟨er, rfl, b3⟩))
  go_ret2
  exact ⟨rfl, btrans (btrans b1 b2) b3⟩
end Go.Proofs.YtbkmdmmcjaanmaaDoor
