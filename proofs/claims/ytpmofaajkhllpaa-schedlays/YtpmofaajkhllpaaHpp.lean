/-
  How the methods of the heap of what may stand are reached through an interface value.
  container/heap over the heap of what may stand: up, Push.
  container/heap over the heap of what may stand: down, Pop.
  container/heap over the heap of what may stand: Pop.
-/
import Derived.Test.YtpmofaajkhllpaaRdn
import Derived.ChangeKeysEq
namespace Go.Proofs.Ytpmofaajkhllpaa
set_option maxRecDepth 20000
section
set_option linter.unusedVariables false
open Go.ChangeShapes Go.WideShapes Go.ChangeAt Go.RowKit

theorem wrap_some (xt : TypeId) (a : Addr) (x y : String) : Builtin.ssaWrapNilChk_ #[xt] xt #[.pointer (some a), strVal x, strVal y] = pure (.pointer (some a)) := rfl
theorem meth_via {P : Program} {T el : TypeId} {name : String} {fn : Nat} {e : TypeId}
    (h : (P.info? T).bind (fun i => (i.methods.find? (fun m => m.name == name)).map (fun m => (m.path.toList, m.func))) = some ([], some (fn, false)))
    (hu : P.underlying T = some (.pointer el)) (hel : P.underlying el = some (.slice e)) (f : Nat) {a : Addr} {v : Value} {W : World} (hc : W.cell? a = some v) :
    Sem.run P (method (f + 1) T (.pointer (some a)) name) W = .ok (fn, v) W := by
  cases hi : P.info? T with
  | none => rw [hi] at h; cases h
  | some i =>
    rw [hi] at h
    simp only [Option.bind_some] at h
    cases hm : i.methods.find? (fun m => m.name == name) with
    | none => rw [hm] at h; cases h
    | some m =>
      rw [hm] at h
      simp only [Option.map_some, Option.some.injEq, Prod.mk.injEq] at h
      obtain ⟨hp, hf⟩ := h
      have hp2 : m.path = #[] := Array.toList_eq_nil_iff.1 hp
      unfold method
      simp [run_typeInfo W hi, hm, hp2, hf, follow, receiverAt, run_underlying hu, Place.get, loadVar, isAgg, run_underlying hel, wrap_some, asAddr, hc]
theorem meth_push (f : Nat) (a : Addr) (W : World) : Sem.run Try.prog (method (f + 1) 63 (.pointer (some a)) "Push") W = .ok (82, .pointer (some a)) W := by kernel_rfl
theorem meth_pop (f : Nat) (a : Addr) (W : World) : Sem.run Try.prog (method (f + 1) 63 (.pointer (some a)) "Pop") W = .ok (81, .pointer (some a)) W := by kernel_rfl
theorem meth_less (f : Nat) {a : Addr} {v : Value} {W : World} (hc : W.cell? a = some v) : Sem.run Try.prog (method (f + 1) 63 (.pointer (some a)) "Less") W = .ok (79, v) W :=
  meth_via (by kernel_rfl) Try.underlying63 Try.underlying45 f hc
theorem meth_len (f : Nat) {a : Addr} {v : Value} {W : World} (hc : W.cell? a = some v) : Sem.run Try.prog (method (f + 1) 63 (.pointer (some a)) "Len") W = .ok (78, v) W :=
  meth_via (by kernel_rfl) Try.underlying63 Try.underlying45 f hc
theorem meth_swap (f : Nat) {a : Addr} {v : Value} {W : World} (hc : W.cell? a = some v) : Sem.run Try.prog (method (f + 1) 63 (.pointer (some a)) "Swap") W = .ok (80, v) W :=
  meth_via (by kernel_rfl) Try.underlying63 Try.underlying45 f hc
end
section
set_option linter.unusedVariables false
open Go.ChangeShapes Go.WideShapes Go.ChangeAt Go.RowKit

set_option maxHeartbeats 2000000 in
theorem up_any (n₀ b : Nat) (c0 c1 c2 rv c4 c5 c6 : Value) (R : List Pr) (j : Nat) (hj : j < R.length) (hl : R.length < 100000) (W : World) (h : RdyM n₀ W b c0 c1 c2 rv c4 c5 c6 R) (hu : UpInv R j) :
    Calls Try.prog 60 #[.iface 63 (.pointer (some ⟨b, 3, none⟩)), .int .i64 j] W fun e W' => e = .returned (.tuple #[]) ∧ ∃ R', RdyM n₀ W' b c0 c1 c2 rv c4 c5 c6 R' ∧ R'.Perm R ∧ HeapOk R' R'.length ∧ Kept (RS n₀ b) W W' := by
  go_enter Try.func60, Try.ntmps60
  go_wp2
  go_loopw [1] (fun i wr => ∃ (k : Nat) (R' : List Pr), k < R.length ∧ i = .int .i64 k ∧ RdyM n₀ wr b c0 c1 c2 rv c4 c5 c6 R' ∧ R'.Perm R ∧ Hid (UpInv R' k) ∧ Kept (RS n₀ b) W wr) (fun i _ => (intOf i).toNat)
  case atStart => exact ⟨j, R, hj, rfl, h, List.Perm.refl _, hu, Kept.refl _ _⟩
  case round =>
    obtain ⟨k, R', hk, rfl, hM, hP, hI, hK⟩ := hrel
    rename World => wr
    have hle := hP.length_eq
    by_cases h0 : k = 0
    · subst h0
      have hh := hidm (up_zero hI.out)
      go_wp2
      go_end0
      exact ⟨rfl, R', hM, hP, hh.out, hK⟩
    · obtain ⟨p, hp⟩ : ∃ p, par k = p := ⟨_, rfl⟩
      have hpl := par_lt (k := k) (by omega)
      have he : ((k : Int) - 1) / 2 = (p : Int) := by unfold par at hp; omega
      have hb : ((p : Int) == (k : Int)) = false := beq_eq_false_iff_ne.2 (by omega)
      have mL : ∀ f, _ := fun f => meth_less f (cell_of hM.box 3)
      have hless := less_any n₀ _ rv R' k p (by omega) (by omega) (by omega) wr hM.row
      have HU := hidm (fun e => up_done hI.out e)
      have HS := hidm (fun e => up_step hI.out (by omega) (by omega) e)
      rw [hp] at HU HS hpl
      clear hI hp
      cases ht : lt2 (R'.getD k pz) (R'.getD p pz) with
      | false =>
        rw [ht] at hless
        have hh := hidm (HU.out ht)
        clear HU HS ht
        go_wp2_with (go_at_call 79; refine hless.mono ?_; rintro e w2 ⟨rfl, g2⟩)
        go_end0
        exact ⟨rfl, R', hM.bel g2, hP, hh.out, hK.trans (Kept.of_bel g2)⟩
      | true =>
        rw [ht] at hless
        have hh := hidm (HS.out ht)
        clear HU HS ht
        go_wp2_with (first
          | (have q := g2; go_at_call 80; refine (swap_any n₀ _ rv R' p k (by omega) (by omega) (by omega) w2 hM2.row).mono ?_; rintro e w3 ⟨rfl, r3, k3⟩)
          | (go_at_call 79; refine hless.mono ?_; rintro e w2 ⟨rfl, g2⟩; have hM2 := hM.bel g2; have mS : ∀ f, _ := fun f => meth_swap f (cell_of hM2.box 3)))
        obtain ⟨m1, m2⟩ := hM2.swapped r3 (swp_len _ _ _) k3
        go_roundw
        case rel => exact ⟨p, _, by omega, rfl, m1, (swp_perm _ _ _ (by omega) (by omega)).trans hP, hh, (hK.trans (Kept.of_bel g2)).trans m2⟩
        case measure => simp [intOf]; omega

set_option maxHeartbeats 2000000 in
theorem hpush_any (n₀ b : Nat) (c0 c1 c2 rv c4 c5 c6 : Value) (R : List Pr) (c : Pr) (hl : R.length < 10000) (W : World) (h : RdyM n₀ W b c0 c1 c2 rv c4 c5 c6 R) (hh : HeapOk R R.length) :
    Calls Try.prog 52 #[.iface 63 (.pointer (some ⟨b, 3, none⟩)), .iface 61 (Cnd c)] W fun e W' => e = .returned (.tuple #[]) ∧ ∃ rv' R', RdyM n₀ W' b c0 c1 c2 rv' c4 c5 c6 R' ∧ R'.Perm (c :: R) ∧ HeapOk R' R'.length ∧ Kept (RS n₀ b) W W' := by
  have mP : ∀ f, _ := fun f => meth_push f ⟨b, 3, none⟩ W
  have HU := hidm (up_start c hh)
  have hcall := rpush_any n₀ b c0 c1 c2 rv c4 c5 c6 R c (by omega) W h
  unfold Cnd at hcall ⊢
  go_enter Try.func52, Try.ntmps52
  go_wp2_with (first
    | (have q := m3; go_at_call 60; refine (up_any n₀ b c0 c1 c2 _ c4 c5 c6 (R ++ [c]) R.length (by simp) (by simp; omega) _ m1 HU.out).mono ?_; rintro e w4 ⟨rfl, R', r1, r2, r3, r4⟩)
    | (have q := m1; go_at_call 78; refine (len_any _ _ _ _ rfl _).mono ?_; rintro e w3 ⟨rfl, m3⟩; subst m3; have m3 := hidm True.intro)
    | (go_at_call 82; refine hcall.mono ?_; rintro e w2 ⟨rfl, rv', m1, m2⟩; obtain ⟨ao, cap, q, _⟩ := own_form m1.row; subst q; have mN : ∀ f, _ := fun f => meth_len f (cell_of m1.box 3); rw [show (R ++ [c]).length = R.length + 1 by simp] at mN))
  go_end0
  exact ⟨rfl, _, R', r1, r2.trans (List.perm_append_singleton c R), r3, m2.trans r4⟩
end
section
set_option linter.unusedVariables false
open Go.ChangeShapes Go.WideShapes Go.ChangeAt Go.RowKit

set_option maxHeartbeats 4000000 in
theorem down_any (n₀ b : Nat) (c0 c1 c2 rv c4 c5 c6 : Value) (R : List Pr) (n : Nat) (hn : R.length = n + 1) (hl : R.length < 100000) (W : World) (h : RdyM n₀ W b c0 c1 c2 rv c4 c5 c6 R) (hu : DnInv R 0 n) :
    Calls Try.prog 54 #[.iface 63 (.pointer (some ⟨b, 3, none⟩)), .int .i64 0, .int .i64 n] W fun e W' => (∃ t, e = .returned (.bool t)) ∧ ∃ R', RdyM n₀ W' b c0 c1 c2 rv c4 c5 c6 R' ∧ Swd R R' n ∧ HeapOk R' n ∧ Kept (RS n₀ b) W W' := by
  go_enter Try.func54, Try.ntmps54
  go_wp2
  go_loopw [7] (fun i wr => ∃ (k : Nat) (R' : List Pr), k ≤ n ∧ i = .int .i64 k ∧ RdyM n₀ wr b c0 c1 c2 rv c4 c5 c6 R' ∧ Hid (Swd R R' n) ∧ Hid (DnInv R' k n) ∧ Kept (RS n₀ b) W wr) (fun i _ => n - (intOf i).toNat)
  case atStart => exact ⟨0, R, by omega, rfl, h, Swd.refl _ _, hu, Kept.refl _ _⟩
  case round =>
    obtain ⟨k, R', hk, rfl, hM, hP, hI, hK⟩ := hrel
    rename World => wr
    have hle := hP.out.len
    rw [hn] at hle
    by_cases h0 : n ≤ 2 * k + 1
    · have hh := hidm (dn_leaf hI.out h0)
      have h0' : (n : Int) ≤ 2 * (k : Int) + 1 := by omega
      go_wp2
      all_goals
        go_ret
        exact ⟨⟨_, rfl⟩, R', hM, hP.out, hh.out, hK⟩
    · obtain ⟨m, hm⟩ : ∃ m : Nat, m = 2 * k + 1 := ⟨_, rfl⟩
      obtain ⟨m2, hm2⟩ : ∃ m2 : Nat, m2 = m + 1 := ⟨_, rfl⟩
      have e1 : 2 * (k : Int) + 1 = (m : Int) := by omega
      have e2 : (m : Int) + 1 = (m2 : Int) := by omega
      have g1 : (m : Int) < n := by omega
      have mL : ∀ f, _ := fun f => meth_less f (cell_of hM.box 3)
      have hmk : m < n := by omega
      by_cases h2 : m2 < n
      · have g2 : (m2 : Int) < n := by omega
        have hless := less_any n₀ _ rv R' m2 m (by omega) (by omega) (by omega) wr hM.row
        cases ht : lt2 (R'.getD m2 pz) (R'.getD m pz) with
        | true =>
          rw [ht] at hless
          have hK2 : Kid R' k n m2 := by
            have := kid_two (R := R') (i := k) (n := n) (by omega) (by rw [show 2 * k + 2 = m2 by omega, show 2 * k + 1 = m by omega]; exact ht)
            rwa [show 2 * k + 2 = m2 by omega] at this
          clear ht
          have hless2 : ∀ w1, Bel wr w1 → _ := fun w1 hb => less_any n₀ _ rv R' m2 k (by omega) (by omega) (by omega) w1 (hM.bel hb).row
          cases hs : lt2 (R'.getD m2 pz) (R'.getD k pz) with
          | false =>
            rw [hs] at hless2
            have hh := hidm (dn_done hI.out hK2 hs)
            clear hs hm hm2
            go_wp2_with (first
                | (have q := b1; go_at_call 79; refine (hless2 _ b1).mono ?_; rintro e w2 ⟨rfl, b2⟩)
                | (go_at_call 79; refine hless.mono ?_; rintro e w1 ⟨rfl, b1⟩; have mL1 : ∀ f, _ := fun f => meth_less f (cell_of (hM.bel b1).box 3)))
            all_goals
              go_ret
              exact ⟨⟨_, rfl⟩, R', (hM.bel b1).bel b2, hP.out, hh.out, hK.trans (Kept.of_bel (btrans b1 b2))⟩
          | true =>
            rw [hs] at hless2
            have hh := hidm (dn_step hI.out (by omega) hK2 hs)
            have hsw := hidm (hP.out.step (i := k) (j := m2) (by omega) (by omega) (by omega))
            have hkj : k < m2 ∧ m2 < n := by omega
            clear hs hm hm2
            go_wp2_with (first
                | (have q := b2; go_at_call 80; refine (swap_any n₀ _ rv R' k m2 (by omega) (by omega) (by omega) w2 hM2.row).mono ?_; rintro e w3 ⟨rfl, r3, k3⟩)
                | (have q := b1; go_at_call 79; refine (hless2 _ b1).mono ?_; rintro e w2 ⟨rfl, b2⟩; have hM2 := (hM.bel b1).bel b2; have mS : ∀ f, _ := fun f => meth_swap f (cell_of hM2.box 3))
                | (go_at_call 79; refine hless.mono ?_; rintro e w1 ⟨rfl, b1⟩; have mL1 : ∀ f, _ := fun f => meth_less f (cell_of (hM.bel b1).box 3)))
            all_goals
              obtain ⟨m1, m2'⟩ := hM2.swapped r3 (swp_len _ _ _) k3
              go_roundw
              case rel => exact ⟨m2, _, by omega, rfl, m1, hsw, hh, (hK.trans (Kept.of_bel (btrans b1 b2))).trans m2'⟩
              case measure => simp [intOf]; omega
        | false =>
          rw [ht] at hless
          have hK2 : Kid R' k n m := by
            have := kid_one (R := R') (i := k) (n := n) (by omega) (fun _ => by rw [show 2 * k + 2 = m2 by omega, show 2 * k + 1 = m by omega]; exact ht)
            rwa [show 2 * k + 1 = m by omega] at this
          clear ht
          have hless2 : ∀ w1, Bel wr w1 → _ := fun w1 hb => less_any n₀ _ rv R' m k (by omega) (by omega) (by omega) w1 (hM.bel hb).row
          cases hs : lt2 (R'.getD m pz) (R'.getD k pz) with
          | false =>
            rw [hs] at hless2
            have hh := hidm (dn_done hI.out hK2 hs)
            clear hs hm hm2
            go_wp2_with (first
                | (have q := b1; go_at_call 79; refine (hless2 _ b1).mono ?_; rintro e w2 ⟨rfl, b2⟩)
                | (go_at_call 79; refine hless.mono ?_; rintro e w1 ⟨rfl, b1⟩; have mL1 : ∀ f, _ := fun f => meth_less f (cell_of (hM.bel b1).box 3)))
            all_goals
              go_ret
              exact ⟨⟨_, rfl⟩, R', (hM.bel b1).bel b2, hP.out, hh.out, hK.trans (Kept.of_bel (btrans b1 b2))⟩
          | true =>
            rw [hs] at hless2
            have hh := hidm (dn_step hI.out (by omega) hK2 hs)
            have hsw := hidm (hP.out.step (i := k) (j := m) (by omega) (by omega) (by omega))
            have hkj : k < m ∧ m < n := by omega
            clear hs hm hm2
            go_wp2_with (first
                | (have q := b2; go_at_call 80; refine (swap_any n₀ _ rv R' k m (by omega) (by omega) (by omega) w2 hM2.row).mono ?_; rintro e w3 ⟨rfl, r3, k3⟩)
                | (have q := b1; go_at_call 79; refine (hless2 _ b1).mono ?_; rintro e w2 ⟨rfl, b2⟩; have hM2 := (hM.bel b1).bel b2; have mS : ∀ f, _ := fun f => meth_swap f (cell_of hM2.box 3))
                | (go_at_call 79; refine hless.mono ?_; rintro e w1 ⟨rfl, b1⟩; have mL1 : ∀ f, _ := fun f => meth_less f (cell_of (hM.bel b1).box 3)))
            all_goals
              obtain ⟨m1, m2'⟩ := hM2.swapped r3 (swp_len _ _ _) k3
              go_roundw
              case rel => exact ⟨m, _, by omega, rfl, m1, hsw, hh, (hK.trans (Kept.of_bel (btrans b1 b2))).trans m2'⟩
              case measure => simp [intOf]; omega
      · have g2 : ¬ (m2 : Int) < n := by omega
        have hK2 : Kid R' k n m := by
          have := kid_one (R := R') (i := k) (n := n) (by omega) (fun q => by omega)
          rwa [show 2 * k + 1 = m by omega] at this
        have hless2 : ∀ w1, Bel wr w1 → _ := fun w1 hb => less_any n₀ _ rv R' m k (by omega) (by omega) (by omega) w1 (hM.bel hb).row
        cases hs : lt2 (R'.getD m pz) (R'.getD k pz) with
        | false =>
          rw [hs] at hless2
          have hh := hidm (dn_done hI.out hK2 hs)
          clear hs hm hm2
          go_wp2_with (first
              | (go_at_call 79; refine (hless2 _ (Bel.refl _)).mono ?_; rintro e w2 ⟨rfl, b2⟩; have b1 := Bel.refl wr))
          all_goals
            go_ret
            exact ⟨⟨_, rfl⟩, R', (hM.bel b1).bel b2, hP.out, hh.out, hK.trans (Kept.of_bel (btrans b1 b2))⟩
        | true =>
          rw [hs] at hless2
          have hh := hidm (dn_step hI.out (by omega) hK2 hs)
          have hsw := hidm (hP.out.step (i := k) (j := m) (by omega) (by omega) (by omega))
          have hkj : k < m ∧ m < n := by omega
          clear hs hm hm2
          go_wp2_with (first
              | (have q := b2; go_at_call 80; refine (swap_any n₀ _ rv R' k m (by omega) (by omega) (by omega) w2 hM2.row).mono ?_; rintro e w3 ⟨rfl, r3, k3⟩)
              | (go_at_call 79; refine (hless2 _ (Bel.refl _)).mono ?_; rintro e w2 ⟨rfl, b2⟩; have b1 := Bel.refl wr; have hM2 := (hM.bel b1).bel b2; have mS : ∀ f, _ := fun f => meth_swap f (cell_of hM2.box 3)))
          all_goals
            obtain ⟨m1, m2'⟩ := hM2.swapped r3 (swp_len _ _ _) k3
            go_roundw
            case rel => exact ⟨m, _, by omega, rfl, m1, hsw, hh, (hK.trans (Kept.of_bel (btrans b1 b2))).trans m2'⟩
            case measure => simp [intOf]; omega
end
section
set_option linter.unusedVariables false
open Go.ChangeShapes Go.WideShapes Go.ChangeAt Go.RowKit

set_option maxHeartbeats 2000000 in
theorem hpop_any (n₀ b : Nat) (c0 c1 c2 rv c4 c5 c6 : Value) (R : List Pr) (hn : 0 < R.length) (hl : R.length < 10000) (W : World) (h : RdyM n₀ W b c0 c1 c2 rv c4 c5 c6 R) (hh : HeapOk R R.length) :
    Calls Try.prog 40 #[.iface 63 (.pointer (some ⟨b, 3, none⟩))] W fun e W' => e = .returned (.iface 61 (Cnd (R.getD 0 pz))) ∧ ∃ rv' R', RdyM n₀ W' b c0 c1 c2 rv' c4 c5 c6 R' ∧ (R.getD 0 pz :: R').Perm R ∧ HeapOk R' R'.length ∧ (∀ c ∈ R, le2 (R.getD 0 pz) c) ∧ Kept (RS n₀ b) W W' := by
  obtain ⟨n, hn⟩ : ∃ n, R.length = n + 1 := ⟨R.length - 1, by omega⟩
  obtain ⟨ao, cap, q, _⟩ := own_form h.row
  subst q
  have mN : ∀ f, _ := fun f => meth_len f (cell_of h.box 3)
  have mS : ∀ f, _ := fun f => meth_swap f (cell_of h.box 3)
  have hsw := swap_any n₀ _ _ R 0 n (by omega) (by omega) (by omega) W h.row
  have hD := hidm (dn_start hh hn)
  have hW := hidm (fun R' a b => pop_what (R' := R') hh hn a b)
  have hL := len_any (.slice ao R.length cap) ao R.length cap rfl W
  rw [hn] at mN hL mS hsw
  have h' := h
  rw [hn] at h'
  have e0 : (((n + 1 : Nat) : Nat) : Int) - 1 = n := by omega
  go_enter Try.func40, Try.ntmps40
  go_wp2_with (first
    | (have q := dn4; go_at_call 81; refine (rpop_any n₀ b n c0 c1 c2 _ c4 c5 c6 R' hl' (by omega) _ r1).mono ?_; rintro e w5 ⟨rfl, rv', p1, p2⟩)
    | (have q := sw1; go_at_call 54; refine (down_any n₀ b c0 c1 c2 _ c4 c5 c6 (swp R 0 n) n (by rw [swp_len]; exact hn) (by rw [swp_len]; omega) _ sw1 hD.out).mono ?_; rintro e w4 ⟨⟨t, rfl⟩, R', r1, r2, r3, r4⟩; have dn4 := hidm True.intro; have mP : ∀ f, _ := fun f => meth_pop f ⟨b, 3, none⟩ w4; have hl' : R'.length = n + 1 := by rw [r2.len, swp_len, hn])
    | (go_at_call 80; refine hsw.mono ?_; rintro e w3 ⟨rfl, s1, s2⟩; obtain ⟨sw1, sw2⟩ := h.swapped (by rw [hn]; exact s1) (swp_len _ _ _) (by rw [hn]; exact s2))
    | (go_at_call 78; refine hL.mono ?_; rintro e w2 ⟨rfl, rfl⟩))
  go_ret
  obtain ⟨q1, q2, q3, q4⟩ := hW.out R' r2 r3
  refine ⟨?_, _, _, p1, q2, q3, q4, (sw2.trans r4).trans p2⟩
  rw [← q1]
  simp [List.getD, hl']
end
end Go.Proofs.Ytpmofaajkhllpaa
