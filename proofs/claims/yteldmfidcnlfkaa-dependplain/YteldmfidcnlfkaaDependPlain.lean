/-
  The law 'DependPlain' of delayslotlaw10 returns true at every list: the order as it is keeps just if nothing that is late is read by the next one; with a place left free behind each one it keeps always (asked of at most 60 instructions).
  Conditions: none.
-/
import Derived.Test.YteldmfidcnlfkaaRows
import Derived.WalkKit
import Derived.ProofKit
import Derived.OpenShut
import Derived.ShutString
import Derived.ChangeOld
import Derived.Below
import Derived.Carry
import Derived.Test.YteldmfidcnlfkaaAwk10
import Derived.Test.YteldmfidcnlfkaaRg
import Derived.Test.YteldmfidcnlfkaaPn10
namespace Go.Proofs.Yteldmfidcnlfkaa.dependPlain
open Go.ChangeShapes Go.WideShapes Go.ChangeAt Go.RowKit
open Go.ChangeMaps (open_string shut_string)
set_option linter.unusedVariables false

theorem laidOut : laidOutB Try.prog = true := by kernel_rfl
theorem own : ownKnob Try.prog.godebug = none := by kernel_rfl
theorem slice_of {n₀ : Nat} {W : World} {e : TypeId} {v : Value} {n : Nat} {xs : List Value} (h : W.ownsRow n₀ e 1 v n xs) : ∃ ao cap, v = .slice ao n cap := by
  rcases h.2 with ⟨rfl, e⟩ | ⟨g, cap, cur, rfl, _⟩
  · exact ⟨none, 0, by rw [e]⟩
  · exact ⟨_, cap, rfl⟩

theorem rds_gen (x : Ins) (n : Int) (w : World) : Calls Try.prog 19 #[.agg #[.int .i64 x.o, .int .i64 x.a, .int .i64 x.b, .int .i64 x.c, .int .i64 x.i], .int .i64 n] w fun e w' => e = .returned (.bool (x.rds n)) ∧ Bel w w' := ret_rds w
theorem row_bel {n₀ : Nat} {e : TypeId} {W W' : World} {v : Value} {n : Nat} {xs : List Value} (h : W.ownsRow n₀ e 1 v n xs) (hb : Bel W W') : W'.ownsRow n₀ e 1 v n xs := row_kept h (Kept.of_bel (S := fun _ _ => False) hb) (fun _ _ _ _ s => s)
theorem row_far {n₀ : Nat} {e : TypeId} {W W' : World} {v u : Value} {n : Nat} {xs : List Value} (h : W.ownsRow n₀ e 1 v n xs) (hg : W.grownBy W' u.ownBlock) (hd : ∀ g, v.ownBlock = some g → u.ownBlock = some g → False) : W'.ownsRow n₀ e 1 v n xs :=
  row_kept h (Kept.grown (S := fun k _ => u.ownBlock = some k) hg (fun k o q _ => q)) (fun g _ _ q s => hd g q s)

set_option maxRecDepth 20000 in
set_option maxHeartbeats 2000000 in
theorem walk (w : World) (y0 : Value) (X0 : List Ins) (wy0 : Code w y0 X0) :
    Calls Try.prog 6 #[y0] w fun e w' => e = .returned (.bool true) ∧ Bel w w' := by
  by_cases hs : X0.length ≤ 60
  · obtain ⟨i0, hi, hz0, hz1, hz2⟩ := info_parts intInfo
    have HW := hidm wy0
    have PK := hidm (plain_keeps X0)
    have WK := hidm (wide_keeps X0)
    obtain ⟨ao, cap, rfl, hc⟩ := wy0
    have HC := hidm hc
    clear hc
    have O1 := hidm (okN_one X0)
    have OS := hidm (okN_succ X0)
    go_enter Try.func6, Try.ntmps6
    go_wp2
    go_loopw [3, 4, 5, 13] (fun p q b i wr => ∃ k : Nat, k ≤ X0.length ∧ i = .int .i64 k ∧ b = .bool (okN X0 k) ∧ wr.ownsRow w.heap.size 3 1 p k ((plainL k).map (Value.int .i64)) ∧ wr.ownsRow w.heap.size 3 1 q (2 * k) ((wideL k).map (Value.int .i64)) ∧ (∀ g, p.ownBlock = some g → q.ownBlock = some g → False) ∧ Bel w wr) (fun _ _ _ i _ => X0.length - (intOf i).toNat)
    case atStart => exact ⟨0, Nat.zero_le _, rfl, rfl, World.ownsRow_nil _ _ _ _, World.ownsRow_nil _ _ _ _, (by intro g h; cases h), Bel.refl _⟩
    case round =>
      obtain ⟨k, hk, rfl, rfl, hp, hq, hd, hB⟩ := hrel
      rename World => wr
      obtain ⟨pa, pc, rfl⟩ := slice_of hp
      obtain ⟨qa, qc, rfl⟩ := slice_of hq
      by_cases hlt : k < X0.length
      · have hzB := hB.size
        have HP1 := hidm hp
        have HQ1 := hidm hq
        have HD := hidm hd
        clear hp hq hd
        go_wp2_with (first
          | (have t := tk; at_builtin; refine wpList_append_lies _ rfl (.tmp 20) (.tmp 22) 29 rfl w.heap.size 3 i0 _ 1 8 Try.underlying29 hi hz0 hz1 hz2 rfl (by decide) _ _ _ rfl (Hid.out HQ2) ⟨w3.heap.size, 0, none⟩ 2 2 [.int .i64 k, .int .i64 (-1)] rfl rfl (World.news_of_block (cs := #[.int .i64 k, .int .i64 (-1)]) (t := 3) (fr := (0, 0)) (heap_new w3 _)) (by simp [Value.oneCell']) (by decide) (by unfold maxLen; omega) (by omega) (by simp; omega) (w3.heap.size + 1) (by simp) ?_; intro g2 c2 w4 own2 hgr2 hat2 hlt2; refine Hid.out ?_)
          | (at_builtin; refine wpList_append_lies _ rfl (.tmp 16) (.tmp 18) 29 rfl w.heap.size 3 i0 _ 1 8 Try.underlying29 hi hz0 hz1 hz2 rfl (by decide) _ _ _ rfl (HP1.out.alloc _) ⟨wr.heap.size, 0, none⟩ 1 1 [.int .i64 k] rfl rfl (World.news_of_block (cs := #[.int .i64 k]) (t := 3) (fr := (0, 0)) (heap_new wr _)) (by simp [Value.oneCell']) (by decide) (by unfold maxLen; omega) (by omega) (by simp; omega) (wr.heap.size + 1) (by simp) ?_; intro g1 c1 w3 own1 hgr1 hat1 hlt1; have hs3 := hgr1.size; rw [World.size_alloc] at hs3; have HQ3 := row_far (HQ1.out.alloc _) hgr1 (fun g a b => HD.out g b a); have HQ2 := hidm (HQ3.alloc (.cells #[.int .i64 k, .int .i64 (-1)] 3)); clear HQ3; have tk : Hid True := True.intro))
        refine hidm ?_
        have hat1' : (Value.slice pa k pc).ownBlock = some g1 ∨ g1 = wr.heap.size + 1 := hat1
        have hat2' : (Value.slice qa (2 * k) qc).ownBlock = some g2 ∨ g2 = w3.heap.size + 1 := hat2
        have hql : ∀ g, (Value.slice qa (2 * k) qc).ownBlock = some g → g < wr.heap.size := fun g e => (HQ1.out.lt g e).2
        have hpq : ∀ g, (Value.slice (some ⟨g1, 0, none⟩) (k + 1) c1).ownBlock = some g → (Value.slice qa (2 * k) qc).ownBlock = some g → False := by
          intro g h1 h2
          have h1' : g1 = g := by injection h1
          rcases hat1' with h3 | h3
          · exact HD.out g (by rw [← h1']; exact h3) h2
          · have := hql g h2
            omega
        have own1' := row_far (own1.alloc (.cells #[.int .i64 k, .int .i64 (-1)] 3)) hgr2 hpq
        have hd2 : ∀ g, (Value.slice (some ⟨g1, 0, none⟩) (k + 1) c1).ownBlock = some g → (Value.slice (some ⟨g2, 0, none⟩) (2 * k + 2) c2).ownBlock = some g → False := by
          intro g h1 h2
          have h1' : g1 = g := by injection h1
          have h2' : g2 = g := by injection h2
          rcases hat2' with h3 | h3
          · exact hpq g h1 (by rw [← h2']; exact h3)
          · omega
        have B4 : Bel w w4 := Bel.grown (Bel.alloc (Bel.grown (hB.alloc _) hgr1 (fun j e => (HP1.out.lt j e).1)) _) hgr2 (fun j e => (HQ1.out.lt j e).1)
        have e1 : (plainL k).map (Value.int .i64) ++ [.int .i64 k] = (plainL (k + 1)).map (Value.int .i64) := by simp [plainL]
        have e2 : (wideL k).map (Value.int .i64) ++ [.int .i64 k, .int .i64 (-1)] = (wideL (k + 1)).map (Value.int .i64) := by simp [wideL]
        rw [e1] at own1'
        rw [e2] at own2
        have OW1 := hidm own1'
        have OW2 := hidm (show w4.ownsRow w.heap.size 3 1 (.slice (some ⟨g2, 0, none⟩) (2 * k + 2) c2) (2 * (k + 1)) ((wideL (k + 1)).map (Value.int .i64)) from own2)
        have HD2 := hidm hd2
        clear e1 e2 own1 own1' own2 hd2 hpq hgr1 hgr2 hat1 hat2 hat1' hat2' hql HP1 HQ1 HQ2 HD hlt1 hlt2 hs3 hzB tk hB
        obtain ⟨b, o, rfl, hb, hca⟩ := HC.out (by omega)
        have hbi : b < w4.heap.size := by have := B4.size; omega
        have hcw := hca.stay hb B4
        clear hca
        haveI := Later.ne w4
        obtain ⟨u1, eu⟩ := later_start w4
        cases k with
        | zero =>
          have HO : Hid (okN X0 (0 + 1) = okN X0 0) := rfl
          generalize okN X0 0 = bk at HO ⊢
          clear OS O1 hcw
          rw [← eu]
          clear eu
          go_wp2
          refine wp_region_later (by kernel_rfl) (by kernel_rfl) ?_
          repeat (go_big_quiet_step (fail))
          refine wpQuiet_nil ?_
          rintro _ ⟨u2, rfl⟩
          go_wp2
          go_roundw
          case rel => exact ⟨1, by omega, by go_num, by rw [HO.out], row_bel OW1.out u2.is_, row_bel OW2.out u2.is_, HD2.out, btrans B4 u2.is_⟩
          case measure => simp [intOf] <;> omega
        | succ m =>
          obtain ⟨a0, a1, a2, a3, a4⟩ := hcw m (by omega)
          obtain ⟨d0, d1, d2, d3, d4⟩ := hcw (m + 1) hlt
          have A0 := later_cell a0 hbi
          have A1 := later_cell a1 hbi
          have A2 := later_cell a2 hbi
          have A3 := later_cell a3 hbi
          have A4 := later_cell a4 hbi
          have D0 := later_cell d0 hbi
          have D1 := later_cell d1 hbi
          have D2 := later_cell d2 hbi
          have D3 := later_cell d3 hbi
          have D4 := later_cell d4 hbi
          have HO : Hid (okN X0 (m + 1 + 1) = (okN X0 (m + 1) && !((X0.getD m Ins.zero).late && (X0.getD (m + 1) Ins.zero).rds (X0.getD m Ins.zero).wr))) := OS.out (m + 1) (by omega)
          generalize X0.getD m Ins.zero = x at A0 A1 A2 A3 A4 HO
          generalize X0.getD (m + 1) Ins.zero = y at D0 D1 D2 D3 D4 HO
          generalize okN X0 (m + 1) = bk at HO ⊢
          have hla := fun ww => ret_late (x := x) ww
          have hwr := fun ww => ret_wr (x := x) ww
          have hrd := fun ww => ret_rds (x := y) (n := x.wr) ww
          generalize x.wr = n at hwr hrd HO
          generalize y.rds n = rr at hrd HO
          generalize x.late = ll at hla HO
          clear OS O1 hcw a0 a1 a2 a3 a4 d0 d1 d2 d3 d4
          have hmi : (m : Int) < X0.length := by omega
          have hmj : (m : Int) + 1 < X0.length := by omega
          have hm0 : (0 : Int) < (m : Int) + 1 := by omega
          rw [← eu]
          clear eu
          have three : (ll = false ∧ Hid (okN X0 (m + 1 + 1) = bk)) ∨ (ll = true ∧ rr = false ∧ Hid (okN X0 (m + 1 + 1) = bk)) ∨ (ll = true ∧ rr = true ∧ Hid (okN X0 (m + 1 + 1) = false)) := by
            have h := HO.out
            cases ll
            · exact .inl ⟨rfl, hidm (by simpa using h)⟩
            · cases rr
              · exact .inr (.inl ⟨rfl, rfl, hidm (by simpa using h)⟩)
              · exact .inr (.inr ⟨rfl, rfl, hidm (by simpa using h)⟩)
          clear HO
          rcases three with ⟨rfl, HE⟩ | ⟨rfl, rfl, HE⟩ | ⟨rfl, rfl, HE⟩
          all_goals
            go_wp2
            refine wp_region_later (by kernel_rfl) (by kernel_rfl) ?_
            repeat (go_big_quiet_step (first | (go_at_call 18; exact later_of (hla _)) | (go_at_call 20; exact later_of (hwr _)) | (go_at_call 19; exact later_of (hrd _))))
            refine wpQuiet_nil ?_
            rintro _ ⟨u2, rfl⟩
            go_wp2
            go_roundw
            case rel => exact ⟨m + 1 + 1, by omega, by go_num, by rw [HE.out], row_bel OW1.out u2.is_, row_bel OW2.out u2.is_, HD2.out, btrans B4 u2.is_⟩
            case measure => simp [intOf] <;> omega
      · obtain rfl : k = X0.length := by omega
        have I1 : Ints .i64 wr (.slice pa X0.length pc) (plainL X0.length) := ints_of_row (n₀ := w.heap.size) (by rw [plainL_len]; exact hp)
        have I2 : Ints .i64 wr (.slice qa (2 * X0.length) qc) (wideL X0.length) := ints_of_row (n₀ := w.heap.size) (by rw [wideL_len]; exact hq)
        have K1 := fun ww hv hu => keeps_any X0 (plainL X0.length) (.slice ao X0.length cap) (.slice pa X0.length pc) ww (by omega) (by rw [plainL_len]; omega) hv hu
        have K2 := fun ww hv hu => keeps_any X0 (wideL X0.length) (.slice ao X0.length cap) (.slice qa (2 * X0.length) qc) ww (by omega) (by rw [wideL_len]; omega) hv hu
        rw [PK.out] at K1
        rw [WK.out] at K2
        have J1 := hidm I1
        have J2 := hidm I2
        have hbb : ∀ b : Bool, (b == b) = true := fun b => by cases b <;> rfl
        generalize okN X0 X0.length = bk at K1 ⊢
        have hbk := hbb bk
        clear hp hq hd I1 I2 PK WK O1 OS HC hbb
        go_wp2_with (first
          | (have t := tk; go_at_call 16; refine (K2 _ (HW.out.stay (btrans hB g1)) (J2.out.bel g1)).mono ?_; rintro e w2 ⟨rfl, g2⟩)
          | (go_at_call 16; refine (K1 _ (HW.out.stay hB) J1.out).mono ?_; rintro e w1 ⟨rfl, g1⟩; have tk : Hid True := True.intro)
          | (go_at_call 12; refine (awake_any _).mono ?_; rintro e w4 ⟨rfl, b4⟩))
        go_ret
        exact ⟨rfl, btrans hB (btrans g1 (btrans g2 b4))⟩
  · obtain ⟨ao, cap, rfl, hc⟩ := wy0
    clear hc
    go_enter Try.func6, Try.ntmps6
    go_wp2_with (go_at_call 12; refine (awake_any _).mono ?_; rintro e w4 ⟨rfl, b4⟩)
    go_ret
    exact ⟨rfl, b4⟩

set_option maxRecDepth 100000 in
theorem lifted (os : Os) (started : os.Started) (H : Type) (enc : TypeId × Value → H) :
    ReturnsInHanded {} Try.checked os 6 .any (Rows.dependPlainSpec.pre6 enc Try.prog Try.f6 Rows.dependPlainRow.domain false) (Rows.dependPlainSpec.post enc Try.prog Try.f6 false true false false) := by
  refine returnsInHanded_of_change (C := Try.checked) own started (by kernel_rfl) Try.func6
    (ChangeSpec.witness6 (enc := enc) (C := Try.checked) false ⟨#[], #[.slice none 0 0], []⟩ 8 (by kernel_rfl) (by kernel_rfl) (by kernel_rfl) (by kernel_rfl)) ?_
  intro W base args ds gs before hval0 hW hcnd _
  have hval : ∀ (j : Nat) t v, Try.f6.params[j]? = some t → args[j]? = some v → Value.okWide Try.prog W .any base t v := hval0
  have hW' := hW
  obtain ⟨p, q, hA0, hV, rfl, hfz, hnd⟩ := hW
  have hA : DataW.TrodAll enc Try.prog W 0 (fun _ => true) true Try.f6.params.toList args.toList ds p := hA0
  rw [Try.params6] at hA hval
  obtain ⟨v0, vs0, d0, ds0, p0, q0, hargs, rfl, rfl, h0, r0⟩ := trodAll_cons hA
  obtain ⟨rfl, rfl, rfl⟩ := trodAll_nil r0
  obtain rfl : args = #[v0] := by cases args; simp_all
  obtain ⟨rfl, rfl⟩ := trodVars_none hV
  have k0 := h0
  have lt0 : ∀ x ∈ p0, x.block < W.heap.size := by obtain ⟨m, hm⟩ := k0; exact DataW.trod_lt m _ _ _ hm
  obtain ⟨X0, wy0⟩ := open_code (hval 0 27 v0 rfl rfl) h0
  clear hA0 hval0
  refine (walk W v0 X0 wy0).mono fun e W' ⟨he, bel⟩ => ?_
  subst he
  exact ⟨_, rfl, _, _, _, [], _, [], hW', trodAll_mk1 (shut_bool Try.underlying4 _), (trodAll_cons_mk (Below.trod laidOut (by kernel_rfl) (of_decide_eq_true (by kernel_rfl)) k0 bel.out lt0) trodAll_mk0), rfl, bel.out.frame _, fun h => by cases h⟩

theorem over : Rows.dependPlainRow.holds Try.pinned (OpenSpec.ofChange Rows.dependPlainSpec) :=
  OpenClaim.holds_of_wide 6 Try.f6 rfl rfl rfl rfl rfl rfl rfl ⟨rfl, rfl, rfl, rfl, rfl⟩ rfl rfl rfl rfl rfl (by kernel_rfl) Try.func6 (by kernel_rfl)
    (of_decide_eq_true (by kernel_rfl)) (by unfold Func.isWrapper; first | (rw [if_pos (by decide +kernel)]; kernel_rfl) | (rw [if_neg (by decide +kernel)]; exact ⟨rfl, rfl⟩))
    (fun os started H enc _ => lifted os started H enc)

theorem proved : Rows.DependPlainSaid :=
  over
#print axioms proved
end Go.Proofs.Yteldmfidcnlfkaa.dependPlain
