/-
  The law 'TextRows' of delayslotlaw04 returns true at every two slices of instructions: a listing has a row for each instruction, and that of more begins with it.
  Conditions: when the call begins, five variables of Go's library (math/bits.deBruijn32tab, math/bits.deBruijn64tab, internal/strconv.uint64pow10, strconv.ErrRange, strconv.ErrSyntax) hold what their own initialisers lay. The card ties that to the text of the program as it was turned (a pruned copy of the project: the packages that the law loads, and no test file).
-/
import Derived.Test.YtbkmdmmcjaanmaaDoorRows
import Derived.Test.YtbkmdmmcjaanmaaDoorCards
import Derived.Test.YtbkmdmmcjaanmaaDoorTie
import Derived.Test.YtbkmdmmcjaanmaaDoorDoor
import Derived.Carry
import Derived.Stop.Joined
import Derived.WalkKit
import Derived.ProofKit
import Derived.OpenShut
import Derived.ShutString
import Derived.ChangeOld
import Derived.Below
import Derived.Test.YtbkmdmmcjaanmaaDoorAwake4
import Derived.Test.YtbkmdmmcjaanmaaDoorApp
import Derived.Test.YtbkmdmmcjaanmaaDoorTxt3
namespace Go.Proofs.YtbkmdmmcjaanmaaDoor.textRows
open Go.ChangeShapes Go.WideShapes Go.ChangeAt Go.RowKit
open Go.ChangeMaps (open_string shut_string)
open Go.Lib hiding intOf
set_option linter.unusedVariables false

theorem own : ownKnob Tryd.prog.godebug = none := by kernel_rfl
theorem laidOut : laidOutB Tryd.prog = true := by kernel_rfl
theorem code_at {w : World} {ao : Option Addr} {cap : Nat} {X : List Ins} (h : Code w (.slice ao X.length cap) X) : 0 < X.length → ∃ b o, ao = some ⟨b, o, none⟩ ∧ b < w.heap.size ∧ CodeAt w b o X := by
  obtain ⟨ao', cap', e, h⟩ := h
  cases e
  exact h
theorem own_empty (w : World) : (w.alloc (.cells #[] 23)).ownsRow w.heap.size 23 5 (.slice (some ⟨w.heap.size, 0, none⟩) ([] : List Ins).length 0) ([] : List Ins).length (flat []) :=
  ⟨rfl, Or.inr ⟨w.heap.size, 0, #[], rfl, Nat.le_refl _, heap_alloc_new _ _, Nat.le_refl _, Nat.zero_le _, rfl, rfl⟩⟩
theorem list_more (X Y : List Ins) : ∀ k, k ≤ X.length → listN (X ++ Y) k = listN X k
  | 0, _ => rfl
  | k + 1, h => by
    have e : (X ++ Y).getD k Ins.zero = X.getD k Ins.zero := by simp [List.getD, List.getElem?_append_left (show k < X.length by omega)]
    rw [listN, listN, list_more X Y k (by omega), e]
theorem list_prefix (X : List Ins) : ∀ n k, k ≤ n → listN X k <+: listN X n
  | 0, k, h => by have : k = 0 := by omega
                  subst this; exact List.prefix_refl _
  | n + 1, k, h => by
    by_cases e : k = n + 1
    · subst e; exact List.prefix_refl _
    · exact (list_prefix X n k (by omega)).trans (List.prefix_append _ _)
theorem line_ten (k : Nat) (x : Ins) : (lineL k x).count 10 = 1 := by
  have h1 : (itoa k).count 10 = 0 := List.count_eq_zero.2 (itoa_none k (by decide) (by decide))
  have h2 : x.text.count 10 = 0 := by
    unfold Ins.text textL
    split
    next h =>
      rw [List.count_eq_zero]
      intro hm
      have := List.all_eq_true.1 (txt_bytes (x := ⟨x.o, x.a, x.b, x.c, x.i⟩) h).1 10 hm
      revert this
      decide
    · rfl
  unfold lineL
  simp only [List.count_append, h1, h2]
  decide
theorem list_ten (X : List Ins) : ∀ k, (listN X k).count 10 = k
  | 0 => rfl
  | k + 1 => by rw [listN, List.count_append, list_ten X k, line_ten]
def cnt (S : ByteArray) (k : Nat) : Nat := (S.data.toList.take k).count 10
theorem cnt_snoc (S : ByteArray) (k : Nat) (h : k < S.size) : cnt S (k + 1) = cnt S k + if S[k].toNat = 10 then 1 else 0 := by
  unfold cnt
  rw [List.take_succ_eq_append_getElem (by simpa using h), List.count_append, List.count_singleton]
  show _ + (if (S[k] == 10) = true then 1 else 0) = _
  by_cases h32 : S[k].toNat = 10
  · have e : S[k] = 10 := UInt8.toNat_inj.1 h32
    rw [if_pos h32, e]; rfl
  · have e : (S[k] == 10) = false := by simpa using fun e : S[k] = 10 => h32 (by rw [e]; rfl)
    rw [if_neg h32, e]; rfl
theorem cnt_le (S : ByteArray) (k : Nat) : cnt S k ≤ k := Nat.le_trans List.count_le_length (List.length_take_le _ _)
theorem pre_take (s t : List UInt8) (h : s <+: t) : ((bs t).extract 0 s.length).toList = s := by
  obtain ⟨r, rfl⟩ := h
  rw [ByteArray.toList_eq]
  unfold bs
  rw [ByteArray.extract_mk]
  simp
set_option maxHeartbeats 2000000 in
set_option maxRecDepth 20000 in
theorem walk_no (w : World) (g : Gl w) (ao ao' : Option Addr) (n cap n' cap' : Nat) (h : 100 < n ∨ 100 < n') :
    Calls Tryd.prog 8 #[.slice ao n cap, .slice ao' n' cap'] w fun e w' => e = .returned (.bool true) ∧ Bel w w' := by
  by_cases h1 : 100 < n
  · have h' : (100 : Int) < n := by omega
    go_enter Tryd.func8, Tryd.ntmps8
    go_wp2_with (go_at_call 11; refine (awake_any _ g).mono ?_; rintro e w2 ⟨rfl, b2⟩)
    go_ret
    exact ⟨rfl, b2⟩
  · have h' : ¬ (100 : Int) < n := by omega
    have h'' : (100 : Int) < n' := by omega
    clear h h1
    go_enter Tryd.func8, Tryd.ntmps8
    go_wp2_with (go_at_call 11; refine (awake_any _ g).mono ?_; rintro e w2 ⟨rfl, b2⟩)
    go_ret
    exact ⟨rfl, b2⟩

set_option maxHeartbeats 2000000 in
theorem walk (w : World) (g : Gl w) (y0 : Value) (X0 : List Ins) (wy0 : Code w y0 X0) (y1 : Value) (X1 : List Ins) (wy1 : Code w y1 X1) :
    Calls Tryd.prog 8 #[y0, y1] w fun e w' => e = .returned (.bool true) ∧ Bel w w' := by
  have HA : Hid (Code w y0 X0) := wy0
  have HB : Hid (Code w y1 X1) := wy1
  obtain ⟨ao, cap, rfl, hc0⟩ := wy0
  obtain ⟨ao', cap', rfl, hc1⟩ := wy1
  by_cases hn : 100 < X0.length ∨ 100 < X1.length
  · exact walk_no w g ao ao' _ cap _ cap' hn
  · have hn0 : ¬ (100 : Int) < X0.length := by omega
    have hn1 : ¬ (100 : Int) < X1.length := by omega
    have hl0 : X0.length ≤ 100 := by omega
    have hl1 : X1.length ≤ 100 := by omega
    clear hn
    go_enter Tryd.func8, Tryd.ntmps8
    go_wp2_with (first
      | (go_at_call 16; refine (listing_any X0 _ _ g (by omega) HA.out).mono ?_; rintro e w1 ⟨rfl, b1⟩; refine Hid.out ?_))
    have g1 := g.stay b1
    have hz1 := b1.size
    have ba : Bel w (w1.alloc (.cells #[] 23)) := b1.alloc _
    have k0 := code_at (HA.out.stay ba)
    refine Lib.hid ?_
    go_wp2_with (first
      | (at_builtin; refine append_code _ rfl (.tmp 22) (.tmp 23) rfl w1.heap.size v2 X0 X1 rfl own2 hv2 ao' cap' rfl k1 (by omega) (by omega) ?_; intro v3 w3 own3 hv3 hg3; refine Hid.out ?_)
      | (at_builtin; refine append_code _ rfl (.tmp 20) (.tmp 21) rfl w1.heap.size _ [] X0 rfl (own_empty w1) ⟨_, _, rfl⟩ ao cap rfl k0 (by simp; omega) (by simp) ?_; intro v2 w2 own2 hv2 hg2; rw [List.nil_append] at own2 hv2; have bb : Bel w w2 := ba.grown hg2 (fun k hk => (by cases hk; exact hz1)); have hz2 : w1.heap.size ≤ w2.heap.size := (by have := hg2.size; simp at this; omega); have k1 := code_at (HB.out.stay bb)))
    have bc : Bel w w3 := bb.grown hg3 (fun k hk => Nat.le_trans hz1 (own2.lt k hk).1)
    have gc := g.stay bc
    have hcode3 := code_of_own own3 hv3
    have ht := list_ten (X0 ++ X1) (X0 ++ X1).length
    have hpre : listN X0 X0.length <+: listN (X0 ++ X1) (X0 ++ X1).length := by
      rw [← list_more X0 X1 X0.length (Nat.le_refl _)]
      exact list_prefix _ _ _ (by simp)
    have hlt := list_len (X0 ++ X1) (X0 ++ X1).length (by simp; omega)
    have hsum : (X0 ++ X1).length = X0.length + X1.length := List.length_append
    have hx2 := pre_take _ _ hpre
    have hx3 := hpre.length_le
    clear own3 own2 hg2 hg3 k0 k1 hv2
    generalize X0 ++ X1 = Z at hcode3 ht hpre hlt hsum hx2 hx3 hv3
    obtain ⟨G3, cap3, rfl⟩ := hv3
    have ht' : (listN Z Z.length).count 10 = X0.length + X1.length := by rw [ht, hsum]
    have hZ200 : Z.length ≤ 9999 := by omega
    have HC : Hid _ := hcode3
    have h2k : (listN Z Z.length).length ≤ 6600 := by omega
    clear hcode3 hlt hpre hsum ht
    refine Lib.hid ?_
    go_wp2_with (go_at_call 16; refine (listing_any Z _ _ gc hZ200 HC.out).mono ?_; rintro e w4 ⟨rfl, b4⟩; refine Hid.out ?_)
    generalize listN Z Z.length = T at *
    generalize listN X0 X0.length = U at *
    have g4 := gc.stay b4
    obtain ⟨S, hS⟩ : ∃ S, S = bs T := ⟨_, rfl⟩
    have hsz : S.size = T.length := by rw [hS, bs_size]
    have hcS : cnt S S.size = X0.length + X1.length := by
      unfold cnt
      rw [hS, bs_list, bs_size, List.take_length]
      exact ht'
    have hus : (bs U).size = U.length := bs_size U
    have huS : U.length ≤ S.size := by omega
    rw [← hS] at hx2 ⊢
    have hex : ((S.extract 0 U.length).toList == (bs U).toList) = true := by rw [hx2, bs_toList]; simp
    have hSs : S.size ≤ 6600 := by omega
    clear hS hsz ht' h2k hx2 hx3 HC
    refine Lib.hid ?_
    go_wp2_with fail
    go_loop [7, 28] (fun n i => ∃ k : Nat, k ≤ S.size ∧ i = .int .i64 k ∧ n = .int .i64 (cnt S k)) (fun _ i => S.size - (intOf i).toNat)
    case atStart => exact ⟨0, Nat.zero_le _, rfl, rfl⟩
    case round =>
      obtain ⟨k, hk, rfl, rfl⟩ := hrel
      have hk1 := cnt_le S k
      by_cases hlt : k < S.size
      · have hsn : Hid _ := cnt_snoc S k hlt
        by_cases h10 : S[k].toNat = 10
        · have HN : Hid (cnt S (k + 1) = cnt S k + 1) := by show _ = _; rw [hsn.out, if_pos h10]
          clear hsn hcS
          generalize cnt S k = n at hk1 HN ⊢
          go_wp2
          go_round
          case rel => exact ⟨k + 1, by omega, by go_num, by rw [HN.out]; go_num⟩
          case measure => simp [intOf]; omega
        · have HN : Hid (cnt S (k + 1) = cnt S k) := by show _ = _; rw [hsn.out, if_neg h10]; rfl
          have h10' : ((S[k].toNat : Int) == 10) = false := by simp; omega
          clear hsn hcS
          generalize cnt S k = n at hk1 HN ⊢
          go_wp2
          go_round
          case rel => exact ⟨k + 1, by omega, by go_num, by rw [HN.out]⟩
          case measure => simp [intOf]; omega
      · have hkn : k = S.size := by omega
        subst hkn
        rw [hcS] at hk1 ⊢
        clear hcS
        go_wp2_with (go_at_call 11; refine (awake_any _ g4).mono ?_; rintro e w5 ⟨rfl, b5⟩)
        all_goals
          go_ret
          exact ⟨rfl, btrans (btrans bc b4) b5⟩

set_option maxRecDepth 100000 in
theorem lifted (os : Os) (started : os.Started) (H : Type) (enc : TypeId × Value → H) :
    ReturnsInHanded {} Tryd.checked os 8 .any (fun w args => (Rows.textRowsSpec.pre enc Tryd.prog Tryd.f8 [] false w args ∧ laidMetH Tryd.prog laid5 w) ∧ sizedMet enc Tryd.prog Tryd.f8 (OpenSpec.ofChange Rows.textRowsSpec) false w args)
      (Rows.textRowsSpec.post enc Tryd.prog Tryd.f8 false true false false) := by
  refine returnsInHanded_of_change_and (C := Tryd.checked) (X := fun w _ => laidMetH Tryd.prog laid5 w) (fun _ _ _ hh h => h.of_heap hh) own started (by kernel_rfl) Tryd.func8
    (ChangeSpec.witness_shaped (enc := enc) (C := Tryd.checked) (os := os) (X := fun w _ => laidMetH Tryd.prog laid5 w) false (World.doorLaid Tryd.prog 400 os) #[.slice none 0 0, .slice none 0 0] 8 rfl (World.shaped_of_RefB (by kernel_rfl) (by kernel_rfl)) (by kernel_rfl) (by kernel_rfl) (by kernel_rfl) (door_met os _)) ?_
  intro W base args ds gs before hval0 hW _ _ hL _
  have hval : ∀ (j : Nat) t v, Tryd.f8.params[j]? = some t → args[j]? = some v → Value.okWide Tryd.prog W .any base t v := hval0
  have hW' := hW
  obtain ⟨p, q, hA0, hV, rfl, hfz, hnd⟩ := hW
  have hA : DataW.TrodAll enc Tryd.prog W 0 (fun _ => true) true Tryd.f8.params.toList args.toList ds p := hA0
  rw [Tryd.params8] at hA hval
  obtain ⟨v0, vs0, d0, ds0, p0, q0, hargs, rfl, rfl, h0, r0⟩ := trodAll_cons hA
  obtain ⟨v1, vs1, d1, ds1, p1, q1, rfl, rfl, rfl, h1, r1⟩ := trodAll_cons r0
  obtain ⟨rfl, rfl, rfl⟩ := trodAll_nil r1
  obtain rfl : args = #[v0, v1] := by cases args; simp_all
  obtain ⟨rfl, rfl⟩ := trodVars_none hV
  have k0 := h0
  have lt0 : ∀ x ∈ p0, x.block < W.heap.size := by obtain ⟨m, hm⟩ := k0; exact DataW.trod_lt m _ _ _ hm
  obtain ⟨X0, wy0⟩ := open_code (hval 0 30 v0 rfl rfl) h0
  have k1 := h1
  have lt1 : ∀ x ∈ p1, x.block < W.heap.size := by obtain ⟨m, hm⟩ := k1; exact DataW.trod_lt m _ _ _ hm
  obtain ⟨X1, wy1⟩ := open_code (hval 1 30 v1 rfl rfl) h1
  clear hA0 hval0
  refine (walk W (of_laid hL) v0 X0 wy0 v1 X1 wy1).mono fun e W' ⟨he, bel⟩ => ?_
  subst he
  exact ⟨_, rfl, _, _, _, [], _, [], hW', trodAll_mk1 (shut_bool Tryd.underlying4 _), (trodAll_cons_mk (Below.trod laidOut (by kernel_rfl) (of_decide_eq_true (by kernel_rfl)) k0 bel.out lt0) (trodAll_cons_mk (Below.trod laidOut (by kernel_rfl) (of_decide_eq_true (by kernel_rfl)) k1 bel.out lt1) trodAll_mk0)), rfl, bel.out.frame _, fun h => by cases h⟩

theorem over : Rows.textRowsRow.holds Tryd.pinned (OpenSpec.ofChange Rows.textRowsSpec) :=
  OpenClaim.holds_of_wide 8 Tryd.f8 rfl rfl rfl rfl rfl rfl rfl ⟨rfl, rfl, rfl, rfl, rfl⟩ rfl rfl rfl rfl rfl (by kernel_rfl) Tryd.func8 (by kernel_rfl)
    (of_decide_eq_true (by kernel_rfl)) (by unfold Func.isWrapper; first | (rw [if_pos (by decide +kernel)]; kernel_rfl) | (rw [if_neg (by decide +kernel)]; exact ⟨rfl, rfl⟩))
    (fun os started H enc _ => lifted os started H enc)

theorem proved : Rows.TextRowsCardSaid :=
  Claim7.holds_tied_plain_at .later [] [.data, .data, .data, .sentinel, .sentinel] true (true, "504fc16b671b34644bb352d4a91002a957a587496d8d14da3073f2f297746a58") true
    over (fun _ h => by cases h) (by kernel_rfl) (fun _ h => by cases h) textRows_row_tie rfl ⟨rfl, rfl⟩ (by kernel_rfl) rfl
    (fun f fn hf hfn => by
      obtain rfl : f = 8 := Option.some.inj ((show Tryd.prog.funcNamed "delayslot/delayslotlaw04.TextRows" = some 8 by kernel_rfl).symm.trans hf) |>.symm
      obtain rfl : fn = Tryd.f8 := (Option.some.inj (Tryd.func8.symm.trans hfn)).symm
      exact ⟨by kernel_rfl, fun j t ht => by
        rw [Tryd.params8] at ht
        have h3 : t = 30 ∨ t = 30 := by
          rcases j with _ | _ | j
          · simp at ht; simp [← ht]
          · simp at ht; simp [← ht]
          · simp at ht
        rcases h3 with rfl | rfl
        · exact (show Tryd.prog.wantsStandIn 30 = false by kernel_rfl)
        · exact (show Tryd.prog.wantsStandIn 30 = false by kernel_rfl)⟩)
    (by kernel_rfl)
#print axioms proved
end Go.Proofs.YtbkmdmmcjaanmaaDoor.textRows
