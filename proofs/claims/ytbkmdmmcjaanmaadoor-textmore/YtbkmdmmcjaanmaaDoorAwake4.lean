/-
  Layer 4's fixed answer.
-/
import Derived.Test.YtbkmdmmcjaanmaaDoorPrs
import Derived.Test.YtbkmdmmcjaanmaaDoorLst
namespace Go.Proofs.YtbkmdmmcjaanmaaDoor
set_option maxRecDepth 20000
open Go.ChangeShapes Go.WideShapes Go.ChangeAt Go.RowKit
open Go.Lib hiding intOf

theorem aw_parse (w : World) (g : Gl w) :
    Calls Tryd.prog 12 #[.string ⟨#[97, 100, 100, 32, 114, 49, 44, 114, 50, 44, 114, 51]⟩] w fun e w' => e = .returned (.tuple #[.agg #[.int .i64 1, .int .i64 1, .int .i64 2, .int .i64 3, .int .i64 0], .bool true]) ∧ Bel w w' := by
  have h := parse_any [97, 100, 100, 32, 114, 49, 44, 114, 50, 44, 114, 51] w g (by decide)
  have hp : parseO [97, 100, 100, 32, 114, 49, 44, 114, 50, 44, 114, 51] = some ⟨1, 1, 2, 3, 0⟩ := by
    have h1 := parse_text ⟨1, 1, 2, 3, 0⟩ (by decide)
    have h2 : (⟨1, 1, 2, 3, 0⟩ : Ins).txt = [97, 100, 100, 32, 114, 49, 44, 114, 50, 44, 114, 51] := by decide +kernel
    rw [h2] at h1
    exact h1
  unfold parseI at h
  rw [hp] at h
  exact h
theorem aw_text : textL 17 0 0 0 5 = [106, 109, 112, 32, 53] := by decide +kernel
theorem aw_list : listN [Ins.zero] 1 = [48, 58, 32, 110, 111, 112, 10] := by decide +kernel
theorem aw_c1 : (bs (textL 17 0 0 0 5)).toList = [106, 109, 112, 32, 53] := by rw [bs_toList, aw_text]
theorem aw_code (w : World) : Code (w.alloc (.cells #[.int .i64 0, .int .i64 0, .int .i64 0, .int .i64 0, .int .i64 0] 23)) (.slice (some ⟨w.heap.size, 0, none⟩) 1 1) [Ins.zero] := by
  refine ⟨_, _, rfl, fun _ => ⟨w.heap.size, 0, rfl, by simp, ?_⟩⟩
  intro j hj
  have : j = 0 := by simpa using hj
  subst this
  refine ⟨?_, ?_, ?_, ?_, ?_⟩ <;> go_simp <;> rfl
set_option maxHeartbeats 2000000 in
set_option maxRecDepth 20000 in
theorem awake_any (w : World) (g : Gl w) :
    Calls Tryd.prog 11 #[] w fun e w' => e = .returned (.bool true) ∧ Bel w w' := by
  have h1 := aw_c1
  go_enter Tryd.func11, Tryd.ntmps11
  go_wp2_with (first
    | (go_at_call 12; refine (aw_parse _ g).mono ?_; rintro e w1 ⟨rfl, b1⟩; have g1 := g.stay b1)
    | (go_at_call 9; refine (text_any _ _ _ _ _ _ (g1.alloc _)).mono ?_; rintro e w2 ⟨rfl, b2⟩; have hbx := boxed5 b2; have g2 := (g1.alloc _).stay b2)
    | (go_at_call 16; refine (listing_any [Ins.zero] _ _ (g2.alloc _) (by decide) (aw_code _)).mono ?_; rintro e w3 ⟨rfl, b3⟩))
  go_ret
  exact ⟨ret_bool (by rw [bs_toList, aw_list]; rfl), btrans (btrans (b1.alloc _) b2) (btrans ((Bel.refl _).alloc _) b3)⟩
end Go.Proofs.YtbkmdmmcjaanmaaDoor
