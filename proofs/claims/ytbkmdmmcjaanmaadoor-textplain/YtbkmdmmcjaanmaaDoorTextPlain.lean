/-
  The law 'TextPlain' of delayslotlaw04 returns true at every instruction: its text, if it has one, begins with a small letter, has at most one blank, and nothing but small letters, digits, commas and -, at most 24 bytes.
  Conditions: when the call begins, five variables of Go's library (math/bits.deBruijn32tab, math/bits.deBruijn64tab, internal/strconv.uint64pow10, strconv.ErrRange, strconv.ErrSyntax) hold what their own initialisers lay. The card ties that to the text of the program as it was turned (a pruned copy of the project: the packages that the law loads, and no test file).
-/
import Derived.Test.YtbkmdmmcjaanmaaDoorRows
import Derived.Test.YtbkmdmmcjaanmaaDoorCards
import Derived.Test.YtbkmdmmcjaanmaaDoorTie
import Derived.Test.YtbkmdmmcjaanmaaDoorDoor
import Derived.Carry
import Derived.Stop.Joined
import Derived.WalkKit
import Derived.ProofKit
import Derived.OpenShut
import Derived.ShutString
import Derived.ChangeOld
import Derived.Below
import Derived.Test.YtbkmdmmcjaanmaaDoorAwake4
import Derived.Test.YtbkmdmmcjaanmaaDoorTxt3
namespace Go.Proofs.YtbkmdmmcjaanmaaDoor.textPlain
open Go.ChangeShapes Go.WideShapes Go.ChangeAt Go.RowKit
open Go.ChangeMaps (open_string shut_string)
open Go.Lib hiding intOf
set_option linter.unusedVariables false

theorem own : ownKnob Tryd.prog.godebug = none := by kernel_rfl
theorem laidOut : laidOutB Tryd.prog = true := by kernel_rfl
theorem cells23 : Tryd.prog.cellsOf 23 = 5 := by kernel_rfl
def cnt (S : ByteArray) (k : Nat) : Nat := (S.data.toList.take k).count 32
theorem cnt_snoc (S : ByteArray) (k : Nat) (h : k < S.size) : cnt S (k + 1) = cnt S k + if S[k].toNat = 32 then 1 else 0 := by
  unfold cnt
  rw [List.take_succ_eq_append_getElem (by simpa using h), List.count_append, List.count_singleton]
  show _ + (if (S[k] == 32) = true then 1 else 0) = _
  by_cases h32 : S[k].toNat = 32
  · have e : S[k] = 32 := UInt8.toNat_inj.1 h32
    rw [if_pos h32, e]; rfl
  · have e : (S[k] == 32) = false := by simpa using fun e : S[k] = 32 => h32 (by rw [e]; rfl)
    rw [if_neg h32, e]; rfl
theorem cnt_le (S : ByteArray) (k : Nat) : cnt S k ≤ S.data.toList.count 32 := (List.take_sublist k _).count_le _

set_option maxHeartbeats 2000000 in
theorem walk (w : World) (g : Gl w) (o0 a0 b0 c0 i0 : Int) (wo0 : (Lit.int .i64 o0).wf = true) (wa0 : (Lit.int .i64 a0).wf = true) (wb0 : (Lit.int .i64 b0).wf = true) (wc0 : (Lit.int .i64 c0).wf = true) (wi0 : (Lit.int .i64 i0).wf = true) :
    Calls Tryd.prog 6 #[.agg #[.int .i64 o0, .int .i64 a0, .int .i64 b0, .int .i64 c0, .int .i64 i0]] w fun e w' => e = .returned (.bool true) ∧ Bel w w' := by
  cases hr : rightB o0 a0 b0 c0 i0 with
  | false =>
    have ht : textL o0 a0 b0 c0 i0 = [] := by unfold textL; rw [hr]; rfl
    have hs : (bs (textL o0 a0 b0 c0 i0)).toList = [] := by rw [bs_toList, ht]
    clear ht
    go_enter Tryd.func6, Tryd.ntmps6
    go_wp2_with (first
      | (go_at_call 9; refine (text_any _ _ _ _ _ _ (g.alloc _)).mono ?_; rintro e w1 ⟨rfl, b1⟩; have g1 := (g.alloc _).stay b1)
      | (go_at_call 11; refine (awake_any _ g1).mono ?_; rintro e w2 ⟨rfl, b2⟩))
    go_ret
    exact ⟨rfl, btrans (btrans ((Bel.refl w).alloc _) b1) b2⟩
  | true =>
    have hx : (⟨o0, a0, b0, c0, i0⟩ : Ins).right = true := hr
    have ht : textL o0 a0 b0 c0 i0 = (⟨o0, a0, b0, c0, i0⟩ : Ins).txt := if_pos hr
    obtain ⟨hall, hcnt⟩ := txt_bytes hx
    obtain ⟨hd, tl, hhd, h97, h122⟩ := txt_head hx
    have hlen := text_len o0 a0 b0 c0 i0
    have HT : Hid (textL o0 a0 b0 c0 i0 = (⟨o0, a0, b0, c0, i0⟩ : Ins).txt) := ht
    rw [ht] at hlen
    clear ht hx
    generalize (⟨o0, a0, b0, c0, i0⟩ : Ins).txt = T at *
    obtain ⟨S, hS⟩ : ∃ S, S = bs T := ⟨_, rfl⟩
    have hl : S.data.toList = T := by rw [hS, bs_list]
    have hsz : S.size = T.length := by rw [hS, bs_size]
    have hs1 : 1 ≤ S.size := by rw [hsz, hhd]; simp
    have hs24 : S.size ≤ 24 := by omega
    have hne : S.toList.isEmpty = false := by rw [ByteArray.toList_eq, hl, hhd]; rfl
    have h0 : 97 ≤ (S[0].toNat : Int) ∧ (S[0].toNat : Int) ≤ 122 := by
      have e : S[0] = hd := by
        have : S[0] = S.data.toList[0]'(by simp; omega) := rfl
        rw [this]
        simp [hl, hhd]
      rw [e]; omega
    have hok : ∀ k (h : k < S.size), okB S[k] = true := by
      intro k h
      have : S[k] = S.data.toList[k]'(by simpa using h) := rfl
      rw [this]
      rw [← hl] at hall
      exact List.all_eq_true.1 hall _ (List.getElem_mem _)
    have hc1 : ∀ k, cnt S k ≤ 1 := fun k => Nat.le_trans (cnt_le S k) (by rw [hl]; exact hcnt)
    have HS : Hid (bs T = S) := hS.symm
    clear hS hl hsz hall hcnt hhd h97 h122 hlen
    go_enter Tryd.func6, Tryd.ntmps6
    go_wp2_with (go_at_call 9; refine (text_any _ _ _ _ _ _ (g.alloc _)).mono ?_; rintro e w1 ⟨rfl, b1⟩; rw [HT.out, HS.out]; have g1 := (g.alloc _).stay b1)
    go_loop [4, 14] (fun n i => ∃ k : Nat, k ≤ S.size ∧ i = .int .i64 k ∧ n = .int .i64 (cnt S k)) (fun _ i => S.size - (intOf i).toNat)
    case atStart => exact ⟨0, Nat.zero_le _, rfl, rfl⟩
    case round =>
      obtain ⟨k, hk, rfl, rfl⟩ := hrel
      have hk1 := hc1 k
      by_cases hlt : k < S.size
      · have hsn : Hid _ := cnt_snoc S k hlt
        have hb := hok k hlt
        unfold okB at hb
        simp only [decide_eq_true_eq] at hb
        by_cases h32 : S[k].toNat = 32
        · have HN : Hid (cnt S (k + 1) = cnt S k + 1) := by show _ = _; rw [hsn.out, if_pos h32]
          clear hsn hb hok hc1
          generalize cnt S k = n at hk1 HN ⊢
          go_wp2
          go_round
          case rel => exact ⟨k + 1, by omega, by go_num, by rw [HN.out]; go_num⟩
          case measure => simp [intOf]; omega
        · have HN : Hid (cnt S (k + 1) = cnt S k) := by show _ = _; rw [hsn.out, if_neg h32]; rfl
          clear hsn hok hc1
          generalize cnt S k = n at hk1 HN ⊢
          go_wp2
          all_goals
            first
              | exact ⟨⟨k + 1, by omega, by go_num, by rw [HN.out]⟩, by simp [intOf]; omega⟩
              | (exfalso; simp only [bne_iff_ne, ne_eq] at *; omega)
      · clear hok hc1
        have hs0 : 0 < S.size := by omega
        generalize cnt S k = n at hk1 ⊢
        go_wp2_with (go_at_call 11; refine (awake_any _ g1).mono ?_; rintro e w2 ⟨rfl, b2⟩)
        all_goals
          first
            | (go_ret; exact ⟨rfl, btrans (btrans ((Bel.refl w).alloc _) b1) b2⟩)
            | (exfalso; omega)

set_option maxRecDepth 100000 in
theorem lifted (os : Os) (started : os.Started) (H : Type) (enc : TypeId × Value → H) :
    ReturnsInHanded {} Tryd.checked os 6 .any (fun w args => (Rows.textPlainSpec.pre enc Tryd.prog Tryd.f6 [] false w args ∧ laidMetH Tryd.prog laid5 w) ∧ sizedMet enc Tryd.prog Tryd.f6 (OpenSpec.ofChange Rows.textPlainSpec) false w args)
      (Rows.textPlainSpec.post enc Tryd.prog Tryd.f6 false true false false) := by
  refine returnsInHanded_of_change_and (C := Tryd.checked) (X := fun w _ => laidMetH Tryd.prog laid5 w) (fun _ _ _ hh h => h.of_heap hh) own started (by kernel_rfl) Tryd.func6
    (ChangeSpec.witness_shaped (enc := enc) (C := Tryd.checked) (os := os) (X := fun w _ => laidMetH Tryd.prog laid5 w) false (World.doorLaid Tryd.prog 400 os) #[.agg #[.int .i64 0, .int .i64 0, .int .i64 0, .int .i64 0, .int .i64 0]] 8 rfl (World.shaped_of_RefB (by kernel_rfl) (by kernel_rfl)) (by kernel_rfl) (by kernel_rfl) (by kernel_rfl) (door_met os _)) ?_
  intro W base args ds gs before hval0 hW _ _ hL _
  have hval : ∀ (j : Nat) t v, Tryd.f6.params[j]? = some t → args[j]? = some v → Value.okWide Tryd.prog W .any base t v := hval0
  have hW' := hW
  obtain ⟨p, q, hA0, hV, rfl, hfz, hnd⟩ := hW
  have hA : DataW.TrodAll enc Tryd.prog W 0 (fun _ => true) true Tryd.f6.params.toList args.toList ds p := hA0
  rw [Tryd.params6] at hA hval
  obtain ⟨v0, vs0, d0, ds0, p0, q0, hargs, rfl, rfl, h0, r0⟩ := trodAll_cons hA
  obtain ⟨rfl, rfl, rfl⟩ := trodAll_nil r0
  obtain rfl : args = #[v0] := by cases args; simp_all
  obtain ⟨rfl, rfl⟩ := trodVars_none hV
  obtain ⟨o0, a0, b0, c0, i0, rfl, rfl, rfl, wo0, wa0, wb0, wc0, wi0⟩ := open_agg5i Tryd.underlying23 (by kernel_rfl) cells23 Tryd.underlying3 rfl rfl rfl rfl rfl (hval 0 23 v0 rfl rfl) h0
  clear hA0 hval0
  refine (walk W (of_laid hL) o0 a0 b0 c0 i0 wo0 wa0 wb0 wc0 wi0).mono fun e W' ⟨he, bel⟩ => ?_
  subst he
  exact ⟨_, rfl, _, _, _, [], _, [], hW', trodAll_mk1 (shut_bool Tryd.underlying4 _), (trodAll_cons_mk (shut_agg5i Tryd.underlying23 (by kernel_rfl) cells23 Tryd.underlying3 rfl rfl rfl rfl rfl wo0 wa0 wb0 wc0 wi0) trodAll_mk0), rfl, bel.out.frame _, fun h => by cases h⟩

theorem over : Rows.textPlainRow.holds Tryd.pinned (OpenSpec.ofChange Rows.textPlainSpec) :=
  OpenClaim.holds_of_wide 6 Tryd.f6 rfl rfl rfl rfl rfl rfl rfl ⟨rfl, rfl, rfl, rfl, rfl⟩ rfl rfl rfl rfl rfl (by kernel_rfl) Tryd.func6 (by kernel_rfl)
    (of_decide_eq_true (by kernel_rfl)) (by unfold Func.isWrapper; first | (rw [if_pos (by decide +kernel)]; kernel_rfl) | (rw [if_neg (by decide +kernel)]; exact ⟨rfl, rfl⟩))
    (fun os started H enc _ => lifted os started H enc)

theorem proved : Rows.TextPlainCardSaid :=
  Claim7.holds_tied_plain_at .later [] [.data, .data, .data, .sentinel, .sentinel] true (true, "504fc16b671b34644bb352d4a91002a957a587496d8d14da3073f2f297746a58") true
    over (fun _ h => by cases h) (by kernel_rfl) (fun _ h => by cases h) textPlain_row_tie rfl ⟨rfl, rfl⟩ (by kernel_rfl) rfl
    (fun f fn hf hfn => by
      obtain rfl : f = 6 := Option.some.inj ((show Tryd.prog.funcNamed "delayslot/delayslotlaw04.TextPlain" = some 6 by kernel_rfl).symm.trans hf) |>.symm
      obtain rfl : fn = Tryd.f6 := (Option.some.inj (Tryd.func6.symm.trans hfn)).symm
      exact ⟨by kernel_rfl, fun j t ht => by
        rw [Tryd.params6] at ht
        have h3 : t = 23 := by
          rcases j with _ | j
          · simpa using ht.symm
          · simp at ht
        rcases h3 with rfl
        · exact (show Tryd.prog.wantsStandIn 23 = false by kernel_rfl)⟩)
    (by kernel_rfl)
#print axioms proved
end Go.Proofs.YtbkmdmmcjaanmaaDoor.textPlain
