/-
  The law 'TextMore' of delayslotlaw04 returns true at every instruction and every text: a text with more behind it that begins with no digit is no other instruction's of that operation; with a capital ahead it is none.
  Conditions: when the call begins, five variables of Go's library (math/bits.deBruijn32tab, math/bits.deBruijn64tab, internal/strconv.uint64pow10, strconv.ErrRange, strconv.ErrSyntax) hold what their own initialisers lay. The card ties that to the text of the program as it was turned (a pruned copy of the project: the packages that the law loads, and no test file).
-/
import Derived.Test.YtbkmdmmcjaanmaaDoorRows
import Derived.Test.YtbkmdmmcjaanmaaDoorCards
import Derived.Test.YtbkmdmmcjaanmaaDoorTie
import Derived.Test.YtbkmdmmcjaanmaaDoorDoor
import Derived.Carry
import Derived.Stop.Joined
import Derived.WalkKit
import Derived.ProofKit
import Derived.OpenShut
import Derived.ShutString
import Derived.ChangeOld
import Derived.Below
import Derived.Test.YtbkmdmmcjaanmaaDoorAwake4
import Derived.Test.YtbkmdmmcjaanmaaDoorTxt3
namespace Go.Proofs.YtbkmdmmcjaanmaaDoor.textMore
open Go.ChangeShapes Go.WideShapes Go.ChangeAt Go.RowKit
open Go.ChangeMaps (open_string shut_string)
open Go.Lib hiding intOf
set_option linter.unusedVariables false

theorem own : ownKnob Tryd.prog.godebug = none := by kernel_rfl
theorem laidOut : laidOutB Tryd.prog = true := by kernel_rfl
theorem cells23 : Tryd.prog.cellsOf 23 = 5 := by kernel_rfl
theorem more_par {x : Ins} {c : UInt8} {r : List UInt8} (hx : x.right = true) (h0 : x.o ≠ 0) (hc : isDig c = false) (hs : (parseO (x.txt ++ c :: r)).isSome = true) : (parseI (x.txt ++ c :: r)).o ≠ x.o := by
  cases hp : parseO (x.txt ++ c :: r) with
  | none => rw [hp] at hs; cases hs
  | some y =>
    obtain ⟨hy, e⟩ := parse_some hp
    unfold parseI
    rw [hp]
    intro ho
    exact more_no hx hy ho h0 hc e
theorem up_par (x : Ins) : (parseO (78 :: x.text)).isSome = false := by
  cases hp : parseO (78 :: x.text) with
  | none => rfl
  | some y => obtain ⟨hy, e⟩ := parse_some hp; exact absurd e (up_no hy)
set_option maxHeartbeats 2000000 in
set_option maxRecDepth 20000 in
theorem walk_no (w : World) (g : Gl w) (o a b c i : Int) (S : ByteArray) (hS : S.size ≤ maxLen) (h : S.size = 0 ∨ 20 < S.size ∨ (∃ h : 0 < S.size, 48 ≤ (S[0].toNat : Int) ∧ (S[0].toNat : Int) ≤ 57) ∨ rightB o a b c i = false) :
    Calls Tryd.prog 7 #[.agg #[.int .i64 o, .int .i64 a, .int .i64 b, .int .i64 c, .int .i64 i], .string S] w fun e w' => e = .returned (.bool true) ∧ Bel w w' := by
  unfold maxLen at hS
  have he : S.toList.isEmpty = decide (S.size = 0) := by
    rw [ByteArray.toList_eq, Lib.size_eq]
    cases S.data.toList <;> simp
  by_cases h0 : S.size = 0
  · have he' : S.toList.isEmpty = true := by rw [he]; simpa using h0
    clear he h
    go_enter Tryd.func7, Tryd.ntmps7
    go_wp2_with (go_at_call 11; refine (awake_any _ (g.alloc _)).mono ?_; rintro e w2 ⟨rfl, b2⟩)
    go_ret
    exact ⟨rfl, btrans ((Bel.refl w).alloc _) b2⟩
  · have he' : S.toList.isEmpty = false := by rw [he]; simpa using h0
    have hs0 : 0 < S.size := by omega
    clear he
    by_cases h20 : 20 < S.size
    · clear h
      go_enter Tryd.func7, Tryd.ntmps7
      go_wp2_with (go_at_call 11; refine (awake_any _ (g.alloc _)).mono ?_; rintro e w2 ⟨rfl, b2⟩)
      go_ret
      exact ⟨rfl, btrans ((Bel.refl w).alloc _) b2⟩
    · by_cases hd : 48 ≤ (S[0].toNat : Int) ∧ (S[0].toNat : Int) ≤ 57
      · obtain ⟨hd1, hd2⟩ := hd
        clear h
        go_enter Tryd.func7, Tryd.ntmps7
        go_wp2_with (go_at_call 11; refine (awake_any _ (g.alloc _)).mono ?_; rintro e w2 ⟨rfl, b2⟩)
        go_ret
        exact ⟨rfl, btrans ((Bel.refl w).alloc _) b2⟩
      · have hr : rightB o a b c i = false := by
          rcases h with h | h | ⟨_, h⟩ | h
          · omega
          · omega
          · exact absurd h hd
          · exact h
        have ht : textL o a b c i = [] := by unfold textL; rw [hr]; rfl
        have hs : (bs (textL o a b c i)).toList = [] := by rw [bs_toList, ht]
        clear ht h
        by_cases h48 : 48 ≤ (S[0].toNat : Int)
        all_goals
          have h57 : 48 ≤ (S[0].toNat : Int) → ¬ (S[0].toNat : Int) ≤ 57 := fun h1 h2 => hd ⟨h1, h2⟩
          clear hd
          try have h57' := h57 h48
          clear h57
          go_enter Tryd.func7, Tryd.ntmps7
          go_wp2_with (first
            | (go_at_call 9; refine (text_any _ _ _ _ _ _ (g.alloc _)).mono ?_; rintro e w1 ⟨rfl, b1⟩; have g1 := (g.alloc _).stay b1)
            | (go_at_call 11; refine (awake_any _ g1).mono ?_; rintro e w2 ⟨rfl, b2⟩))
          go_ret
          exact ⟨rfl, btrans (btrans ((Bel.refl w).alloc _) b1) b2⟩

set_option maxHeartbeats 2000000 in
theorem walk (w : World) (g : Gl w) (o0 a0 b0 c0 i0 : Int) (wo0 : (Lit.int .i64 o0).wf = true) (wa0 : (Lit.int .i64 a0).wf = true) (wb0 : (Lit.int .i64 b0).wf = true) (wc0 : (Lit.int .i64 c0).wf = true) (wi0 : (Lit.int .i64 i0).wf = true) (x1 : ByteArray) (wx1 : x1.size ≤ maxLen) :
    Calls Tryd.prog 7 #[.agg #[.int .i64 o0, .int .i64 a0, .int .i64 b0, .int .i64 c0, .int .i64 i0], .string x1] w fun e w' => e = .returned (.bool true) ∧ Bel w w' := by
  cases hr : rightB o0 a0 b0 c0 i0 with
  | false => exact walk_no w g o0 a0 b0 c0 i0 x1 wx1 (Or.inr (Or.inr (Or.inr hr)))
  | true =>
    by_cases h0 : x1.size = 0
    · exact walk_no w g o0 a0 b0 c0 i0 x1 wx1 (Or.inl h0)
    · by_cases h20 : 20 < x1.size
      · exact walk_no w g o0 a0 b0 c0 i0 x1 wx1 (Or.inr (Or.inl h20))
      · have hs0 : 0 < x1.size := by omega
        by_cases hd : 48 ≤ (x1[0].toNat : Int) ∧ (x1[0].toNat : Int) ≤ 57
        · exact walk_no w g o0 a0 b0 c0 i0 x1 wx1 (Or.inr (Or.inr (Or.inl ⟨hs0, hd⟩)))
        · have hx : (⟨o0, a0, b0, c0, i0⟩ : Ins).right = true := hr
          have ht : textL o0 a0 b0 c0 i0 = (⟨o0, a0, b0, c0, i0⟩ : Ins).txt := if_pos hr
          have hne := txt_ne hr
          have hlen := text_len o0 a0 b0 c0 i0
          have hup : (parseO (78 :: textL o0 a0 b0 c0 i0)).isSome = false := up_par ⟨o0, a0, b0, c0, i0⟩
          have hempty : (bs (textL o0 a0 b0 c0 i0)).toList.isEmpty = false := by
            rw [bs_toList, ht]
            cases h : (⟨o0, a0, b0, c0, i0⟩ : Ins).txt with
            | nil => exact absurd h hne
            | cons _ _ => rfl
          obtain ⟨c, r, hS⟩ : ∃ c r, x1 = bs (c :: r) := by
            rw [of_bs x1]
            cases h : x1.data.toList with
            | nil => rw [Lib.size_eq, h] at h0; exact absurd rfl h0
            | cons c r => exact ⟨c, r, rfl⟩
          have hcd : isDig c = false := by
            have e : x1[0] = c := by
              have : x1[0] = x1.data.toList[0]'(by simp; omega) := rfl
              rw [this]
              simp [hS, bs_list]
            rw [e] at hd
            unfold isDig
            simp
            omega
          have hrl : (c :: r).length = x1.size := by rw [hS, bs_size]
          have hadd := add_bs (x := bs (textL o0 a0 b0 c0 i0)) (y := x1) rfl hS (by omega)
          have hadd2 := add_bs (x := ⟨#[78]⟩) (y := bs (textL o0 a0 b0 c0 i0)) (a := [78]) rfl rfl (by simp; omega)
          have hjl : (textL o0 a0 b0 c0 i0 ++ c :: r).length ≤ 281474976710656 := by rw [List.length_append]; omega
          have hjl2 : ([78] ++ textL o0 a0 b0 c0 i0).length ≤ 281474976710656 := by rw [List.length_append]; simp; omega
          have hem : x1.toList.isEmpty = false := by rw [hS, bs_toList]; rfl
          have h3 : (parseO (textL o0 a0 b0 c0 i0 ++ c :: r)).isSome = false ∨ ((parseO (textL o0 a0 b0 c0 i0 ++ c :: r)).isSome = true ∧ o0 = 0) ∨ ((parseO (textL o0 a0 b0 c0 i0 ++ c :: r)).isSome = true ∧ (o0 == 0) = false ∧ ((parseI (textL o0 a0 b0 c0 i0 ++ c :: r)).o != o0) = true) := by
            cases hs : (parseO (textL o0 a0 b0 c0 i0 ++ c :: r)).isSome with
            | false => exact Or.inl rfl
            | true =>
              by_cases hz : o0 = 0
              · exact Or.inr (Or.inl ⟨rfl, hz⟩)
              · refine Or.inr (Or.inr ⟨rfl, by simpa using hz, ?_⟩)
                rw [ht] at hs ⊢
                simpa using more_par hx hz hcd hs
          have hd48 : 48 ≤ (x1[0].toNat : Int) ∧ ¬ (x1[0].toNat : Int) ≤ 57 ∨ ¬ 48 ≤ (x1[0].toNat : Int) := by omega
          have HS : Hid _ := hS
          clear hS hrl ht hx hne hcd hd h0
          generalize hT : textL o0 a0 b0 c0 i0 = T at *
          have HT : Hid _ := hT
          clear hT
          generalize hL : T ++ c :: r = L at *
          clear hL
          have hz78 : [78] ++ T = 78 :: T := rfl
          rw [hz78] at hadd2 hjl2
          unfold maxLen at wx1
          rcases hd48 with ⟨d1, d2⟩ | d1 <;> rcases h3 with p1 | ⟨p1, p2⟩ | ⟨p1, p2, p3⟩
          all_goals
            try subst p2
            go_enter Tryd.func7, Tryd.ntmps7
            go_wp2_with (first
              | (go_at_call 9; refine (text_any _ _ _ _ _ _ (g3.alloc _)).mono ?_; rintro e w4 ⟨rfl, b4⟩; rw [HT.out]; have g4 := (g3.alloc _).stay b4; have x4 := boxed5 (btrans (b13.alloc _) b4))
              | (go_at_call 9; refine (text_any _ _ _ _ _ _ g1).mono ?_; rintro e w2 ⟨rfl, b2⟩; rw [HT.out]; have g2 := g1.stay b2; have b12 := btrans b1 b2; have x2 := boxed5 b12)
              | (go_at_call 9; refine (text_any _ _ _ _ _ _ (g.alloc _)).mono ?_; rintro e w1 ⟨rfl, b1⟩; rw [HT.out]; have g1 := (g.alloc _).stay b1; have y1 := boxed5 b1)
              | (go_at_call 12; refine (parse_agg _ _ g4 hjl2).mono ?_; rintro e w5 ⟨rfl, b5⟩; have g5 := g4.stay b5; have b45 := btrans b4 b5; have x5 := boxed5 (btrans (b13.alloc _) b45); have j5 := boxed5 b45; have z5 : w3.heap.size < w5.heap.size := (by have := b45.size; simp at this; omega); have z6 : w.heap.size < w5.heap.size := (by omega))
              | (go_at_call 12; refine (parse_agg _ _ g2 hjl).mono ?_; rintro e w3 ⟨rfl, b3⟩; have g3 := g2.stay b3; have b13 := btrans b12 b3; have x3 := boxed5 b13; have z3 : w.heap.size < w3.heap.size := (by have := b13.size; simp at this; omega))
              | (go_at_call 11; refine (awake_any _ (g5.alloc _)).mono ?_; rintro e w6 ⟨rfl, b6⟩))
            go_ret
            exact ⟨rfl, btrans (btrans ((Bel.refl w).alloc _) (btrans (b13.alloc _) b45)) (btrans ((Bel.refl _).alloc _) b6)⟩

set_option maxRecDepth 100000 in
theorem lifted (os : Os) (started : os.Started) (H : Type) (enc : TypeId × Value → H) :
    ReturnsInHanded {} Tryd.checked os 7 .any (fun w args => (Rows.textMoreSpec.pre enc Tryd.prog Tryd.f7 [] false w args ∧ laidMetH Tryd.prog laid5 w) ∧ sizedMet enc Tryd.prog Tryd.f7 (OpenSpec.ofChange Rows.textMoreSpec) false w args)
      (Rows.textMoreSpec.post enc Tryd.prog Tryd.f7 false true false false) := by
  refine returnsInHanded_of_change_and (C := Tryd.checked) (X := fun w _ => laidMetH Tryd.prog laid5 w) (fun _ _ _ hh h => h.of_heap hh) own started (by kernel_rfl) Tryd.func7
    (ChangeSpec.witness_shaped (enc := enc) (C := Tryd.checked) (os := os) (X := fun w _ => laidMetH Tryd.prog laid5 w) false (World.doorLaid Tryd.prog 400 os) #[.agg #[.int .i64 0, .int .i64 0, .int .i64 0, .int .i64 0, .int .i64 0], .string ByteArray.empty] 8 rfl (World.shaped_of_RefB (by kernel_rfl) (by kernel_rfl)) (by kernel_rfl) (by kernel_rfl) (by kernel_rfl) (door_met os _)) ?_
  intro W base args ds gs before hval0 hW _ _ hL _
  have hval : ∀ (j : Nat) t v, Tryd.f7.params[j]? = some t → args[j]? = some v → Value.okWide Tryd.prog W .any base t v := hval0
  have hW' := hW
  obtain ⟨p, q, hA0, hV, rfl, hfz, hnd⟩ := hW
  have hA : DataW.TrodAll enc Tryd.prog W 0 (fun _ => true) true Tryd.f7.params.toList args.toList ds p := hA0
  rw [Tryd.params7] at hA hval
  obtain ⟨v0, vs0, d0, ds0, p0, q0, hargs, rfl, rfl, h0, r0⟩ := trodAll_cons hA
  obtain ⟨v1, vs1, d1, ds1, p1, q1, rfl, rfl, rfl, h1, r1⟩ := trodAll_cons r0
  obtain ⟨rfl, rfl, rfl⟩ := trodAll_nil r1
  obtain rfl : args = #[v0, v1] := by cases args; simp_all
  obtain ⟨rfl, rfl⟩ := trodVars_none hV
  obtain ⟨o0, a0, b0, c0, i0, rfl, rfl, rfl, wo0, wa0, wb0, wc0, wi0⟩ := open_agg5i Tryd.underlying23 (by kernel_rfl) cells23 Tryd.underlying3 rfl rfl rfl rfl rfl (hval 0 23 v0 rfl rfl) h0
  obtain ⟨x1, rfl, rfl, rfl, wx1⟩ := open_string Tryd.underlying9 (hval 1 9 v1 rfl rfl) h1
  clear hA0 hval0
  refine (walk W (of_laid hL) o0 a0 b0 c0 i0 wo0 wa0 wb0 wc0 wi0 x1 wx1).mono fun e W' ⟨he, bel⟩ => ?_
  subst he
  exact ⟨_, rfl, _, _, _, [], _, [], hW', trodAll_mk1 (shut_bool Tryd.underlying4 _), (trodAll_cons_mk (shut_agg5i Tryd.underlying23 (by kernel_rfl) cells23 Tryd.underlying3 rfl rfl rfl rfl rfl wo0 wa0 wb0 wc0 wi0) (trodAll_cons_mk (shut_string Tryd.underlying9 wx1) trodAll_mk0)), rfl, bel.out.frame _, fun h => by cases h⟩

theorem over : Rows.textMoreRow.holds Tryd.pinned (OpenSpec.ofChange Rows.textMoreSpec) :=
  OpenClaim.holds_of_wide 7 Tryd.f7 rfl rfl rfl rfl rfl rfl rfl ⟨rfl, rfl, rfl, rfl, rfl⟩ rfl rfl rfl rfl rfl (by kernel_rfl) Tryd.func7 (by kernel_rfl)
    (of_decide_eq_true (by kernel_rfl)) (by unfold Func.isWrapper; first | (rw [if_pos (by decide +kernel)]; kernel_rfl) | (rw [if_neg (by decide +kernel)]; exact ⟨rfl, rfl⟩))
    (fun os started H enc _ => lifted os started H enc)

theorem proved : Rows.TextMoreCardSaid :=
  Claim7.holds_tied_plain_at .later [] [.data, .data, .data, .sentinel, .sentinel] true (true, "504fc16b671b34644bb352d4a91002a957a587496d8d14da3073f2f297746a58") true
    over (fun _ h => by cases h) (by kernel_rfl) (fun _ h => by cases h) textMore_row_tie rfl ⟨rfl, rfl⟩ (by kernel_rfl) rfl
    (fun f fn hf hfn => by
      obtain rfl : f = 7 := Option.some.inj ((show Tryd.prog.funcNamed "delayslot/delayslotlaw04.TextMore" = some 7 by kernel_rfl).symm.trans hf) |>.symm
      obtain rfl : fn = Tryd.f7 := (Option.some.inj (Tryd.func7.symm.trans hfn)).symm
      exact ⟨by kernel_rfl, fun j t ht => by
        rw [Tryd.params7] at ht
        have h3 : t = 23 ∨ t = 9 := by
          rcases j with _ | _ | j
          · simp at ht; simp [← ht]
          · simp at ht; simp [← ht]
          · simp at ht
        rcases h3 with rfl | rfl
        · exact (show Tryd.prog.wantsStandIn 23 = false by kernel_rfl)
        · exact (show Tryd.prog.wantsStandIn 9 = false by kernel_rfl)⟩)
    (by kernel_rfl)
#print axioms proved
end Go.Proofs.YtbkmdmmcjaanmaaDoor.textMore
