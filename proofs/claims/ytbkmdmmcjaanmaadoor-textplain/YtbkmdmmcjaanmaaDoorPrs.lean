/-
  The contract of package text's Parse.
-/
import Derived.Test.YtbkmdmmcjaanmaaDoorRdp
namespace Go.Proofs.YtbkmdmmcjaanmaaDoor
set_option maxRecDepth 20000
open Go.ChangeShapes Go.WideShapes Go.ChangeAt Go.RowKit
open Go.Lib hiding intOf

def parseI (l : List UInt8) : Ins := (parseO l).getD ⟨0, 0, 0, 0, 0⟩
theorem ret_insb {x y : Value} {o o' : Bool} (h : x = y) (h' : o = o') : Ending.returned (.tuple #[x, .bool o]) = .returned (.tuple #[y, .bool o']) := by rw [h, h']
set_option maxHeartbeats 2000000 in
set_option maxRecDepth 20000 in
theorem parse_no (l : List UInt8) (w : World) (hl : l.length ≤ 281474976710656) (hn : namedL (cut l [32]).1 = 21) :
    Calls Tryd.prog 12 #[.string (bs l)] w fun e w' => e = .returned (.tuple #[insV ⟨0, 0, 0, 0, 0⟩, .bool false]) ∧ Bel w w' := by
  have hd : decide (namedL (cut l [32]).1 ≠ 21) = false := by simp [hn]
  clear hn
  go_enter Tryd.func12, Tryd.ntmps12
  go_wp2_with (first
    | (go_at_call 22; refine (cut_any _ _ _ hl).mono ?_; rintro e w1 ⟨rfl, b1⟩; have hz1 : w.heap.size < w1.heap.size := (by have := b1.size; simp at this; omega))
    | (go_at_call 23; refine (named_any _ _).mono ?_; rintro e w2 ⟨rfl, b2⟩; rw [hd]; have hbx := boxed5 (btrans b1 b2); have hz2 := b2.size))
  have hG := btrans ((Bel.refl w).alloc _) (btrans b1 b2)
  refine bodyPost_ret (v := ?_) ?_ rfl ⟨?_, ?_⟩
  rotate_left 1
  · simp only [results, Tryd.results12]; go_simp; rfl
  · exact ret_insb rfl rfl
  · repeat (first | with_reducible exact hG | with_reducible apply Bel.alloc | (with_reducible refine Bel.setCell ?_ ?_ _; rotate_left 1; (simp <;> omega)))

set_option maxHeartbeats 2000000 in
set_option maxRecDepth 20000 in
theorem parse_yes (l : List UInt8) (w : World) (g : Gl w) (hl : l.length ≤ 281474976710656) (hn : namedL (cut l [32]).1 ≠ 21) :
    Calls Tryd.prog 12 #[.string (bs l)] w fun e w' => e = .returned (.tuple #[insV (if (readL (namedL (cut l [32]).1) (cut l [32]).2.1).text = l then readL (namedL (cut l [32]).1) (cut l [32]).2.1 else ⟨0, 0, 0, 0, 0⟩), .bool (decide ((readL (namedL (cut l [32]).1) (cut l [32]).2.1).text = l))]) ∧ Bel w w' := by
  have hd : decide (namedL (cut l [32]).1 ≠ 21) = true := by simp [hn]
  have hv : namedV (cut l [32]).1 = namedL (cut l [32]).1 := if_neg hn
  have hl2 := Nat.le_trans (cut_len l 32).2 hl
  clear hn
  have ho : Hid ((readL (namedL (cut l [32]).1) (cut l [32]).2.1).o = namedL (cut l [32]).1) := rfl
  generalize hx : readL (namedL (cut l [32]).1) (cut l [32]).2.1 = x at ho ⊢
  have hX : Hid _ := hx
  clear hx
  have ht : x.text = textL x.o x.a x.b x.c x.i := rfl
  have htl : (textL x.o x.a x.b x.c x.i).length ≤ 24 := text_len _ _ _ _ _
  rw [ht]
  have hop := ho.out
  rw [← hop] at hv
  clear ht hop
  by_cases hq : textL x.o x.a x.b x.c x.i = l
  · have hc : ((bs (textL x.o x.a x.b x.c x.i)).toList == (bs l).toList) = true := by rw [bs_eq]; simpa using hq
    rw [if_pos hq, show decide (textL x.o x.a x.b x.c x.i = l) = true by simpa using hq]
    clear hq
    go_enter Tryd.func12, Tryd.ntmps12
    go_wp2_with (first
      | (go_at_call 22; refine (cut_any _ _ _ hl).mono ?_; rintro e w1 ⟨rfl, b1⟩; have hz1 : w.heap.size < w1.heap.size := (by have := b1.size; simp at this; omega))
      | (go_at_call 23; refine (named_any _ _).mono ?_; rintro e w2 ⟨rfl, b2⟩; rw [hd, hv]; have hz2 := b2.size; have b12 := btrans b1 b2; have g2 := g.stay (btrans ((Bel.refl w).alloc _) b12))
      | (go_at_call 24; rw [ho.out]; refine (read_any _ _ _ g2 hl2).mono ?_; rintro e w3 ⟨rfl, b3⟩; rw [hX.out, ← ho.out]; have hz3 := b3.size; have b13 := btrans b12 b3; have g3 := g2.stay b3)
      | (go_at_call 9; refine (text_any _ _ _ _ _ _ (g3.alloc _)).mono ?_; rintro e w4 ⟨rfl, b4⟩; have hz4 := b4.size; have hb4 := boxed5 b4; have hbx := boxed5 (btrans b13 (btrans ((Bel.refl _).alloc _) b4))))
    have hG := btrans ((Bel.refl w).alloc _) (btrans b13 (btrans ((Bel.refl _).alloc _) b4))
    refine bodyPost_ret (v := ?_) ?_ rfl ⟨?_, ?_⟩
    rotate_left 1
    · simp only [results, Tryd.results12]; go_simp; rfl
    · exact ret_insb rfl rfl
    · repeat (first | with_reducible exact hG | with_reducible apply Bel.alloc | (with_reducible refine Bel.setCell ?_ ?_ _; rotate_left 1; (simp <;> omega)))
  · have hc : ((bs (textL x.o x.a x.b x.c x.i)).toList == (bs l).toList) = false := by rw [bs_eq]; simpa using hq
    rw [if_neg hq, show decide (textL x.o x.a x.b x.c x.i = l) = false by simpa using hq]
    clear hq
    go_enter Tryd.func12, Tryd.ntmps12
    go_wp2_with (first
      | (go_at_call 22; refine (cut_any _ _ _ hl).mono ?_; rintro e w1 ⟨rfl, b1⟩; have hz1 : w.heap.size < w1.heap.size := (by have := b1.size; simp at this; omega))
      | (go_at_call 23; refine (named_any _ _).mono ?_; rintro e w2 ⟨rfl, b2⟩; rw [hd, hv]; have hz2 := b2.size; have b12 := btrans b1 b2; have g2 := g.stay (btrans ((Bel.refl w).alloc _) b12))
      | (go_at_call 24; rw [ho.out]; refine (read_any _ _ _ g2 hl2).mono ?_; rintro e w3 ⟨rfl, b3⟩; rw [hX.out, ← ho.out]; have hz3 := b3.size; have b13 := btrans b12 b3; have g3 := g2.stay b3)
      | (go_at_call 9; refine (text_any _ _ _ _ _ _ (g3.alloc _)).mono ?_; rintro e w4 ⟨rfl, b4⟩; have hz4 := b4.size; have hb4 := boxed5 b4; have hbx := boxed5 (btrans b13 (btrans ((Bel.refl _).alloc _) b4))))
    have hG := btrans ((Bel.refl w).alloc _) (btrans b13 (btrans ((Bel.refl _).alloc _) b4))
    refine bodyPost_ret (v := ?_) ?_ rfl ⟨?_, ?_⟩
    rotate_left 1
    · simp only [results, Tryd.results12]; go_simp; rfl
    · exact ret_insb rfl rfl
    · repeat (first | with_reducible exact hG | with_reducible apply Bel.alloc | (with_reducible refine Bel.setCell ?_ ?_ _; rotate_left 1; (simp <;> omega)))
theorem parse_any (l : List UInt8) (w : World) (g : Gl w) (hl : l.length ≤ 281474976710656) :
    Calls Tryd.prog 12 #[.string (bs l)] w fun e w' => e = .returned (.tuple #[insV (parseI l), .bool (parseO l).isSome]) ∧ Bel w w' := by
  by_cases hn : namedL (cut l [32]).1 = 21
  · have e : parseO l = none := by unfold parseO; rw [if_pos hn]
    unfold parseI; rw [e]
    exact parse_no l w hl hn
  · have h := parse_yes l w g hl hn
    by_cases hq : (readL (namedL (cut l [32]).1) (cut l [32]).2.1).text = l
    · have e : parseO l = some (readL (namedL (cut l [32]).1) (cut l [32]).2.1) := by unfold parseO; rw [if_neg hn, if_pos hq]
      unfold parseI; rw [e]
      rw [if_pos hq, show decide ((readL (namedL (cut l [32]).1) (cut l [32]).2.1).text = l) = true by simpa using hq] at h
      exact h
    · have e : parseO l = none := by unfold parseO; rw [if_neg hn, if_neg hq]
      unfold parseI; rw [e]
      rw [if_neg hq, show decide ((readL (namedL (cut l [32]).1) (cut l [32]).2.1).text = l) = false by simpa using hq] at h
      exact h
theorem parse_agg (l : List UInt8) (w : World) (g : Gl w) (hl : l.length ≤ 281474976710656) :
    Calls Tryd.prog 12 #[.string (bs l)] w fun e w' => e = .returned (.tuple #[.agg #[.int .i64 (parseI l).o, .int .i64 (parseI l).a, .int .i64 (parseI l).b, .int .i64 (parseI l).c, .int .i64 (parseI l).i], .bool (parseO l).isSome]) ∧ Bel w w' :=
  parse_any l w g hl
end Go.Proofs.YtbkmdmmcjaanmaaDoor
