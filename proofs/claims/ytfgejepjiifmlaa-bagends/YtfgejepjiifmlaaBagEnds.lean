/-
  The law 'BagEnds' of delayslotlaw05 returns true at every input: a range that is left early has told just the first values.
  Conditions: none.
-/
import Derived.Test.YtfgejepjiifmlaaRows
import Derived.WalkKit
import Derived.ProofKit
import Derived.OpenShut
import Derived.ShutString
import Derived.ChangeOld
import Derived.Below
import Derived.Carry
import Derived.Test.YtfgejepjiifmlaaEnds
import Derived.Maps.AppendAt
import Derived.Maps.OwnIn
import Derived.Deep.RegionHeld3
namespace Go.Proofs.Ytfgejepjiifmlaa.bagEnds
open Go.ChangeShapes Go.WideShapes Go.ChangeAt Go.RowKit
open Go.ChangeMaps (open_string shut_string)
set_option linter.unusedVariables false

theorem laidOut : laidOutB Try.prog = true := by kernel_rfl
theorem own : ownKnob Try.prog.godebug = none := by kernel_rfl
open Go.Shelf Go.Maps
attribute [local go_sem] Oper.semAt_some
theorem take_snoc (X : List Int) (k : Nat) (h : k < X.length) : X.take (k + 1) = X.take k ++ [X[k]?.getD 0] := by
  rw [List.take_succ_eq_append_getElem h]
  simp [h]

set_option maxRecDepth 20000 in
set_option maxHeartbeats 2000000 in
theorem walk (w : World) (y0 : Value) (X0 : List Int) (wy0 : Ints .i64 w y0 X0) (vy0 : ∀ x ∈ X0, (Lit.int .i64 x).wf = true) (x1 : Int) (wx1 : (Lit.int .u8 x1).wf = true) :
    Calls Try.prog 6 #[y0, .int .u8 x1] w fun e w' => e = .returned (.bool true) ∧ Bel w w' := by
  obtain ⟨ao, cap, rfl, hv⟩ := wy0
  have hx1 := wf_u8 wx1
  have heq2 := fun (w : World) (B1 B2 : Nat) => eql_func_nil w 48 (.func 33) #[] #[.pointer (some ⟨B1, 0, none⟩), .pointer (some ⟨B2, 0, none⟩)] Try.underlying48
  have heq1 := fun (w : World) (B1 : Nat) => eql_func_nil w 43 (.func 28) #[] #[.pointer (some ⟨B1, 0, none⟩)] Try.underlying43
  have hcut : 100 < X0.length ∨ X0.length ≤ 100 := by omega
  rcases hcut with hcut | hcut
  all_goals
    refine (callsIn_wide (n := 4)).1 ?_
    refine callsIn_of_wp_marks Try.func6 rfl trivial ?_ rfl
    simp only [Try.ntmps6, List.size_toArray, List.length_cons, List.length_nil, Nat.reduceAdd, Nat.reduceSub, Array.replicate_succ, Array.replicate_zero, List.push_toArray, List.append_toArray, List.nil_append, List.cons_append]
    gi_wp2
    first
      | (obtain ⟨M, hM, hMv⟩ : ∃ M : Nat, M = min X0.length 100 ∧ Value.int .i64 100 = Value.int .i64 M := ⟨100, by omega, rfl⟩; rw [hMv]; clear hMv)
      | (obtain ⟨M, hM, hMv⟩ : ∃ M : Nat, M = min X0.length 100 ∧ Value.int .i64 X0.length = Value.int .i64 M := ⟨X0.length, by omega, rfl⟩; rw [hMv]; clear hMv)
    have hM1 : M ≤ X0.length := by omega
    have hM2 : M ≤ 100 := by omega
    clear hM hcut
    have bL := Boxed.new w 22 (.slice ao X0.length cap)
    have b1 := box_new2 w (.cells #[.slice ao X0.length cap] 22) 5 (.int .u8 x1)
    have BA : Bel w ((w.alloc (.cells #[.slice ao X0.length cap] 22)).alloc (.cells #[.int .u8 x1] 5)) := ((Bel.refl w).alloc _).alloc _
    have bR := box_new2 (w.alloc (.cells #[.slice ao X0.length cap] 22)) (.cells #[.int .u8 x1] 5) 4 (.bool false)
    have bN := box_new2 ((((w.alloc (.cells #[.slice ao X0.length cap] 22)).alloc (.cells #[.int .u8 x1] 5)).alloc (.cells #[.bool false] 4)).alloc (.cells #[.pointer none, .pointer none, .int .i64 0] 25)) (.cells #[.slice none 0 0, .map none] 39) 3 (.int .i64 M)
    have q0 := IsQ.new w.heap.size (((w.alloc (.cells #[.slice ao X0.length cap] 22)).alloc (.cells #[.int .u8 x1] 5)).alloc (.cells #[.bool false] 4)) (by simp; omega)
    have s0 := IsS.new w.heap.size ((((w.alloc (.cells #[.slice ao X0.length cap] 22)).alloc (.cells #[.int .u8 x1] 5)).alloc (.cells #[.bool false] 4)).alloc (.cells #[.pointer none, .pointer none, .int .i64 0] 25)) (by simp; omega)
    simp only [World.size_alloc] at bL b1 bR bN q0 s0
    replace bL := ((((bL.alloc (.cells #[.int .u8 x1] 5)).alloc (.cells #[.bool false] 4)).alloc (.cells #[.pointer none, .pointer none, .int .i64 0] 25)).alloc (.cells #[.slice none 0 0, .map none] 39)).alloc (.cells #[.int .i64 M] 3)
    replace b1 := (((b1.alloc (.cells #[.bool false] 4)).alloc (.cells #[.pointer none, .pointer none, .int .i64 0] 25)).alloc (.cells #[.slice none 0 0, .map none] 39)).alloc (.cells #[.int .i64 M] 3)
    replace bR := ((bR.alloc (.cells #[.pointer none, .pointer none, .int .i64 0] 25)).alloc (.cells #[.slice none 0 0, .map none] 39)).alloc (.cells #[.int .i64 M] 3)
    replace q0 := q0.bel (((Bel.refl _).alloc (.cells #[.slice none 0 0, .map none] 39)).alloc (.cells #[.int .i64 M] 3))
    replace s0 := s0.bel ((Bel.refl _).alloc (.cells #[.int .i64 M] 3))
    replace BA := (((BA.alloc (.cells #[.bool false] 4)).alloc (.cells #[.pointer none, .pointer none, .int .i64 0] 25)).alloc (.cells #[.slice none 0 0, .map none] 39)).alloc (.cells #[.int .i64 M] 3)
    have hsA : w.heap.size + 6 ≤ ((((((w.alloc (.cells #[.slice ao X0.length cap] 22)).alloc (.cells #[.int .u8 x1] 5)).alloc (.cells #[.bool false] 4)).alloc (.cells #[.pointer none, .pointer none, .int .i64 0] 25)).alloc (.cells #[.slice none 0 0, .map none] 39)).alloc (.cells #[.int .i64 M] 3)).heap.size := by simp
    generalize ((((((w.alloc (.cells #[.slice ao X0.length cap] 22)).alloc (.cells #[.int .u8 x1] 5)).alloc (.cells #[.bool false] 4)).alloc (.cells #[.pointer none, .pointer none, .int .i64 0] 25)).alloc (.cells #[.slice none 0 0, .map none] 39)).alloc (.cells #[.int .i64 M] 3)) = wA at bL b1 bR bN q0 s0 BA hsA ⊢
    gi_loopw [8] (fun i wr => ∃ (k : Nat) (ks : List (Nat × Int)) (v : Value) (mp : Option Nat), i = .int .i64 k ∧ k ≤ M ∧ Hid (ks.map Prod.snd = X0.take k) ∧ IsQ w.heap.size wr (w.heap.size + 1 + 1 + 1) ks ∧ IsS w.heap.size wr (w.heap.size + 1 + 1 + 1 + 1) v mp (rng k) ∧ High (w.heap.size + 6) v ∧
        Boxed wr w.heap.size 22 (.slice ao X0.length cap) ∧ Boxed wr (w.heap.size + 1) 5 (.int .u8 x1) ∧ Boxed wr (w.heap.size + 1 + 1) 4 (.bool false) ∧ Boxed wr (w.heap.size + 1 + 1 + 1 + 1 + 1) 3 (.int .i64 M) ∧ Bel w wr ∧ w.heap.size + 6 ≤ wr.heap.size) (fun i _ => M - (intOf i).toNat)
    case atStart => exact ⟨0, [], _, _, rfl, Nat.zero_le _, rfl, q0, s0, high_nil _, bL, b1, bR, bN, BA, hsA⟩
    case round =>
      clear bL b1 bR bN q0 s0 BA hsA
      obtain ⟨k, ks, v, mp, rfl, hk, hm, q, s, hh, bL, b1, bR, bN, hB, hsz⟩ := hrel
      have hlk : ks.length = k := by
        have := congrArg List.length hm.out
        rw [List.length_map, List.length_take] at this
        omega
      have HL : Hid (ks.length = k) := hlk
      clear hlk
      have cL := bL.cell
      have cN := bN.cell
      have lB := bL.lt
      by_cases hlt : k < M
      · obtain ⟨b, o, rfl, hb, hc⟩ := hv (by omega)
        have hck := hc k (by omega)
        have hcx := ((bcell hB).1 b (o + k) hb).trans hck
        have hsn := take_snoc X0 k (by omega)
        have l1 : (k : Int) < X0.length := by omega
        have l2 : k < X0.length := by omega
        have wk : (Lit.int .i64 (k : Int)).wf = true := by simp only [Lit.wf, Bool.and_eq_true, decide_eq_true_eq]; exact (⟨by omega, by omega⟩ : -9223372036854775808 ≤ (k : Int) ∧ (k : Int) ≤ 9223372036854775807)
        generalize X0[k]?.getD 0 = z at hck hcx hsn
        have HM2 : ∀ j : Nat, Hid ((ks ++ [(j, z)]).map Prod.snd = X0.take (k + 1)) := fun j => by
          show _ = _
          rw [List.map_append, hm.out, hsn]
          rfl
        clear hsn hc hv hm
        gi_wp2_with (first
          | (refine ⟨trivial, ?_⟩; gi_at_call 11; refine (callsIn_wide.2 (push_any w.heap.size (w.heap.size + 1 + 1 + 1) ks _ _ hB.size (by have := HL.out; omega) q)).mono ?_; rintro e w2 ⟨rfl, q2, k2⟩; have B2 : Bel w w2 := hB.out.trans (QS.below hB.size k2); have s2 := s.of_queue k2; have hs2 := k2.size)
          | (refine ⟨trivial, ?_⟩; gi_at_call 18; refine (callsIn_wide.2 (add_new w.heap.size (w.heap.size + 1 + 1 + 1 + 1) v mp (rng k) k wk (by rw [rng_length]; omega) _ B2.size s2 (rng_not k))).mono ?_; rintro e w3 ⟨rfl, v3, m3, s3, k3, o3, -⟩; have B3 : Bel w w3 := B2.out.trans (s2.below B2.size k3); have q3 := q2.of_set s2 k3))
        go_roundw
        case rel =>
          have hs3 := k3.size
          refine ⟨k + 1, _, v3, some m3, by simp, by omega, HM2 _, q3, by rw [rng_succ]; exact s3, high_add hh (by omega) o3, ?_, ?_, ?_, ?_, B3, by omega⟩
          · exact box_set (box_queue bL k2 (by decide) (by decide)) s2 k3 (by omega) (fun e => by have := hh _ e; omega)
          · exact box_set (box_queue b1 k2 (by decide) (by decide)) s2 k3 (by omega) (fun e => by have := hh _ e; omega)
          · exact box_set (box_queue bR k2 (by decide) (by decide)) s2 k3 (by omega) (fun e => by have := hh _ e; omega)
          · exact box_set (box_queue bN k2 (by decide) (by decide)) s2 k3 (by omega) (fun e => by have := hh _ e; omega)
        case measure => simp only [intOf]; omega
      · obtain rfl : k = M := by omega
        have bP := Boxed.new wr 3 (.int .i64 0)
        have BP : Bel wr (wr.alloc (.cells #[.int .i64 0] 3)) := (Bel.refl wr).alloc _
        have qP := q.bel BP
        have sP := s.bel BP
        gi_wp2_with (first
          | (refine ⟨trivial, ?_⟩; gi_at_call 23; refine (callsIn_wide.2 (all_any w.heap.size (w.heap.size + 1 + 1 + 1) ks _ q3)).mono ?_; rintro e w4 ⟨B1, B2, rfl, y1, y2, -, y3, y4, b4⟩)
          | (refine ⟨trivial, ?_⟩; gi_at_call 23; refine (callsIn_wide.2 (all_any w.heap.size (w.heap.size + 1 + 1 + 1) ks _ qP)).mono ?_; rintro e w2 ⟨A1, A2, rfl, -, -, -, -, -, b2⟩; have q2 := qP.bel b2; have s2 := sP.bel b2)
          | (refine ⟨trivial, ?_⟩; gi_at_call 19; refine (callsIn_wide.2 (sall_any w.heap.size (w.heap.size + 1 + 1 + 1 + 1) v mp (rng k) _ s2)).mono ?_; rintro e w3 ⟨rfl, e3'⟩; have b3 : Bel w2 w3 := (by rw [e3']; exact (Bel.refl w2).alloc _); clear e3'; have q3 := q2.bel b3))
        have B4 : Bel wr w4 := btrans BP (btrans b2 (btrans b3 b4))
        have bP4 := box_bel bP (btrans b2 (btrans b3 b4))
        have q4 := q3.bel b4
        have s4 := s.bel B4
        have BW4 := btrans hB B4
        have hk4 := (btrans b2 (btrans b3 b4)).size
        have hk3 := (btrans b2 b3).size
        rw [World.size_alloc] at hk4 hk3
        replace bL := box_bel bL B4
        replace b1 := box_bel b1 B4
        replace bR := box_bel bR B4
        replace bN := box_bel bN B4
        have hlow : ∀ p ∈ ks, p.1 < w4.heap.size ∧ ¬ (p.1 = wr.heap.size) := fun p hp => by
          obtain ⟨q', hq'⟩ := q.links.at p hp
          have := lt_of_heap hq'
          omega
        have HT : Hid (∀ j, j < k → (toldFrom 0 ks)[j]? = some (j, X0[j]?.getD 0)) := fun j hj => by
          rw [told_at ks 0 j (by rw [HL.out]; exact hj), hm.out, List.getElem?_take, if_pos hj, Nat.zero_add]
        have HTl : Hid ((toldFrom 0 ks).length = k) := (toldFrom_length 0 ks).trans HL.out
        have hlt3 := lB
        have hrp : v.ownBlock ≠ some wr.heap.size := fun e => by have := (s.row.lt _ e).2; omega
        obtain ⟨so, scap, hsv⟩ := slice_of s.row
        subst hsv
        clear q s bP BP qP sP cL cN lB b2 b3 b4 q2 s2 q3 hm hlt
        refine wpIn_rangeFunc_ownG rfl (by omega) (gf := 33) (lb := #[.pointer (some ⟨B1, 0, none⟩), .pointer (some ⟨B2, 0, none⟩)]) rfl trivial (enters_of Try.func33 (by kernel_rfl) rfl)
          (qall_stops Fence.wide 3 trivial rfl (by omega) B1 B2 w4.heap.size (fun k => k = wr.heap.size) ks (by have := HL.out; omega) w4 y3 y4 ⟨y4.lt, by omega⟩ q4.links q4.nodup hlow) keepX_t (keepX_b (Nat.le_refl _)) (Below.refl _ _) (fun _ => rfl)
          (fun (pre : List (Nat × Int)) W => (Hid (pre <+: toldFrom 0 ks) ∧ (pre.length : Int) ≤ x1) ∧ Boxed W wr.heap.size 3 (.int .i64 pre.length) ∧ Kept (fun k _ => k = wr.heap.size) w4 W)
          (fun c pre W => ((c = .exit 2 ∧ (pre.length : Int) = x1 + 1) ∧ Boxed W wr.heap.size 3 (.int .i64 x1) ∧ Kept (fun k _ => k = wr.heap.size) w4 W) ∨ (c = .ret ∧ ¬ pre <+: toldFrom 0 ks))
          (OwnFrom.and (ownFrom_pure _ _) (OwnFrom.and (Own.from (boxed_own wr.heap.size 3 (fun pre : List (Nat × Int) => .int .i64 pre.length)) _) ownFrom_kept))
          (fun c s A B row hs hg hr => hs.imp (fun h => ⟨h.1, Own.from (boxed_own wr.heap.size 3 (fun _ : List (Nat × Int) => .int .i64 x1)) _ s A B row h.2.1 hg hr, ownFrom_kept s A B row h.2.2 hg hr⟩) id)
          ⟨⟨List.nil_prefix, by simp; omega⟩, bP4, Kept.refl _ _⟩
          ?_ ?_ ?_ ?_ ?_
        rotate_left 1
        · intro l x W K hK
          gi_wp2
          exact hK
        · rintro l pre x W ⟨⟨hp, hpl⟩, hbx, hkp⟩ hlt
          have hltk : pre.length < k := by have := HL.out; omega
          clear hlt
          have cP := hbx.cell
          have fP := hbx.frozen
          have c1 := (box_kept b1 hkp (by omega)).cell
          have cN := (box_kept bN hkp (by omega)).cell
          have cL := (box_kept bL hkp (by omega)).cell
          have bR' := box_kept bR hkp (by omega)
          have cR := bR'.cell
          have fR := bR'.frozen
          have hT := HT.out pre.length hltk
          obtain ⟨b, o, rfl, hb, hc⟩ := hv (by omega)
          have hck := hc pre.length (by omega)
          have hcx := cell_kept1 (((bcell BW4).1 b (o + pre.length) hb).trans hck) (by omega) hkp (by omega)
          have HN : Hid (pre ++ [x] <+: toldFrom 0 ks → x = (pre.length, X0[pre.length]?.getD 0)) := fun h => by
            have := (snoc_prefix h).symm.trans hT
            injection this
          have HY : Hid (x = (pre.length, X0[pre.length]?.getD 0) → pre ++ [x] <+: toldFrom 0 ks) := fun h => prefix_snoc hp.out (h ▸ hT)
          generalize X0[pre.length]?.getD 0 = z at hcx HN HY
          obtain ⟨xi, xv⟩ := x
          clear hT hc hck hv hp
          have l1 : (pre.length : Int) < X0.length := by omega
          have l2 : pre.length < X0.length := by omega
          by_cases hb0 : (pre.length : Int) = x1
          · have hb1 : ((pre.length : Int) == x1) = true := by simp [hb0]
            have HE : Hid ((pre.length : Int) = x1) := hb0
            clear hb0 hpl
            gi_wp2
            exact ⟨KeepsFrom.refl _ _, .inl ⟨⟨rfl, by have := HE.out; simp; omega⟩, by have := HE.out; rw [← this]; exact hbx, hkp⟩⟩
          · have hb1 : ((pre.length : Int) == x1) = false := by simp [hb0]
            have hpl2 : (pre.length : Int) + 1 ≤ x1 := by omega
            clear hb0 hpl
            by_cases h1 : xi = pre.length
            · subst h1
              have h1' : ((pre.length : Int) != (pre.length : Int)) = false := by simp
              have h3 : ¬ ((k : Int) ≤ (pre.length : Int)) := by omega
              by_cases h2 : xv = z
              · have h2' : (xv != z) = false := by simp [h2]
                have HP := HY.out (by rw [h2])
                clear h2
                gi_wp2
                refine ⟨(KeepsOthers.setCell W ⟨wr.heap.size, 0, none⟩ _).from _, ?_, ⟨HP, by simp; omega⟩, ?_, ?_⟩
                · exact (Kept.setCell (fun k _ => k = wr.heap.size) W ⟨wr.heap.size, 0, none⟩ _ (fun _ _ => rfl)).keepX hkp.size (fun k o s => .inl s)
                · rw [List.length_append]
                  exact hbx.set _
                · exact hkp.trans (Kept.setCell _ W ⟨wr.heap.size, 0, none⟩ _ (fun _ _ => rfl))
              · have h2' : (xv != z) = true := by simp [h2]
                have HP : ¬ (pre ++ [(pre.length, xv)] <+: toldFrom 0 ks) := fun h => by
                  have := HN.out h
                  injection this with _ this
                  exact h2 this
                clear h2
                gi_wp2
                exact ⟨(KeepsOthers.setCell W _ _).from _, .inr ⟨rfl, HP⟩⟩
            · have h1' : ((xi : Int) != (pre.length : Int)) = true := by simp; omega
              have HP : ¬ (pre ++ [(xi, xv)] <+: toldFrom 0 ks) := fun h => by
                have := HN.out h
                injection this with this _
                exact h1 this
              clear h1
              gi_wp2
              exact ⟨(KeepsOthers.setCell W _ _).from _, .inr ⟨rfl, HP⟩⟩
        · rintro D ys W hD e ⟨⟨hp, hpl⟩, hbx, hkp⟩ hK
          subst e
          rw [HTl.out] at hpl hbx
          have hside : (k : Int) ≤ x1 := hpl
          clear hp hpl
          have BW5 := kept_bel hkp BW4 (by omega)
          have q5 := q4.kept1 bP4 (by decide) (by decide) hkp
          have s5 := s4.kept1 bP4 (by omega) hrp hkp
          have hWs := hkp.size
          have hDW := lt_of_heap hK
          have bA : Boxed (W.alloc (.cells #[.int .i64 0] 3)) W.heap.size 3 (.int .i64 0) := Boxed.new W _ _
          have s6 := s5.bel ((Bel.refl W).alloc (.cells #[.int .i64 0] 3))
          gi_wp2_with (refine ⟨trivial, ?_⟩; gi_at_call 19; refine (callsIn_wide.2 (sall_any w.heap.size (w.heap.size + 1 + 1 + 1 + 1) _ mp (rng k) _ s6)).mono ?_; rintro e w6 ⟨rfl, e6'⟩; have E6 : Hid (w6 = (W.alloc (.cells #[.int .i64 0] 3)).alloc (.cells #[.slice so (rng k).length scap] 22)) := e6'; clear e6'; simp only [World.size_alloc])
          have e6 := E6.out
          clear E6
          have BWW6 : Bel W w6 := by rw [e6]; exact ((Bel.refl W).alloc _).alloc _
          have bA6 : Boxed w6 W.heap.size 3 (.int .i64 0) := by rw [e6]; exact bA.alloc _
          have bS6 : Boxed w6 (W.heap.size + 1) 22 (.slice so (rng k).length scap) := by rw [e6]; exact box_new2 W _ _ _
          have hs6 : W.heap.size + 2 ≤ w6.heap.size := by rw [e6]; simp
          have hL6 : HeldX w6.heap.size (fun k => k = W.heap.size) w6 so (rng k) := fun hp => by
            obtain ⟨g, o, e, hg, hc⟩ := s5.held hp
            exact ⟨g, o, e, by omega, by omega, fun j hj => ((bcell BWW6).1 g (o + j) hg).trans (hc j hj)⟩
          have BW6 := btrans BW5 BWW6
          have b16 := box_bel (box_kept b1 hkp (by omega)) BWW6
          have bR6 := box_bel (box_kept bR hkp (by omega)) BWW6
          have bN6 := box_bel (box_kept bN hkp (by omega)) BWW6
          have bP6 := box_bel hbx BWW6
          have q6 := q5.bel BWW6
          have hK6 := (BWW6.out.block D hDW).trans hK
          have HR : Hid (∀ j, j < k → (rng k)[j]? = some (j : Int)) := rng_at k
          have HRl : Hid ((rng k).length = k) := rng_length k
          clear e6 bA s6 s5 q5 hkp hbx hK bP4 q4 s4 bL b1 bR bN HT HTl
          refine wpIn_rangeFunc_ownG rfl (by omega) (gf := 28) (lb := #[.pointer (some ⟨W.heap.size + 1, 0, none⟩)]) rfl trivial (enters_of Try.func28 (by kernel_rfl) rfl)
            (sall_stops Fence.wide 3 trivial rfl (by omega) (W.heap.size + 1) w6.heap.size (fun k => k = W.heap.size) so scap (rng k) (by rw [rng_length]; omega) w6 bS6 (Nat.le_refl _) hL6) keepX_t (keepX_b (Nat.le_refl _)) (Below.refl _ _) (fun _ => rfl)
            (fun (pre : List Int) V => (Hid (pre <+: rng k) ∧ (pre.length : Int) ≤ x1) ∧ Boxed V W.heap.size 3 (.int .i64 pre.length) ∧ Kept (fun k _ => k = W.heap.size) w6 V)
            (fun c pre V => ((c = .exit 4 ∧ (pre.length : Int) = x1 + 1) ∧ Boxed V W.heap.size 3 (.int .i64 x1) ∧ Kept (fun k _ => k = W.heap.size) w6 V) ∨ (c = .ret ∧ ¬ pre <+: rng k))
            (OwnFrom.and (ownFrom_pure _ _) (OwnFrom.and (Own.from (boxed_own W.heap.size 3 (fun pre : List Int => .int .i64 pre.length)) _) ownFrom_kept))
            (fun c s A B row hs hg hr => hs.imp (fun h => ⟨h.1, Own.from (boxed_own W.heap.size 3 (fun _ : List Int => .int .i64 x1)) _ s A B row h.2.1 hg hr, ownFrom_kept s A B row h.2.2 hg hr⟩) id)
            ⟨⟨List.nil_prefix, by simp; omega⟩, bA6, Kept.refl _ _⟩
            ?_ ?_ ?_ ?_ ?_
          rotate_left 1
          · intro l x V K hK
            gi_wp2
            exact hK
          · rintro l pre x V ⟨⟨hp, hpl⟩, hbx, hkp⟩ hlt
            have hltk : pre.length < k := by have := HRl.out; omega
            clear hlt
            have cP := hbx.cell
            have fP := hbx.frozen
            have c1 := (box_kept b16 hkp (by omega)).cell
            have bR' := box_kept bR6 hkp (by omega)
            have cR := bR'.cell
            have fR := bR'.frozen
            have hT := HR.out pre.length hltk
            have HN : Hid (pre ++ [x] <+: rng k → x = (pre.length : Int)) := fun h => by
              have := (snoc_prefix h).symm.trans hT
              injection this
            have HY : Hid (x = (pre.length : Int) → pre ++ [x] <+: rng k) := fun h => prefix_snoc hp.out (h ▸ hT)
            clear hT hp
            by_cases hb0 : (pre.length : Int) = x1
            · have hb1 : ((pre.length : Int) == x1) = true := by simp [hb0]
              have HE : Hid ((pre.length : Int) = x1) := hb0
              clear hb0 hpl
              gi_wp2
              exact ⟨KeepsFrom.refl _ _, .inl ⟨⟨rfl, by have := HE.out; simp; omega⟩, by have := HE.out; rw [← this]; exact hbx, hkp⟩⟩
            · have hb1 : ((pre.length : Int) == x1) = false := by simp [hb0]
              have hpl2 : (pre.length : Int) + 1 ≤ x1 := by omega
              clear hb0 hpl
              by_cases h1 : x = (pre.length : Int)
              · have h1' : (x != (pre.length : Int)) = false := by simp [h1]
                have HP := HY.out h1
                clear h1
                gi_wp2
                refine ⟨(KeepsOthers.setCell V ⟨W.heap.size, 0, none⟩ _).from _, ?_, ⟨HP, by simp; omega⟩, ?_, ?_⟩
                · exact (Kept.setCell (fun k _ => k = W.heap.size) V ⟨W.heap.size, 0, none⟩ _ (fun _ _ => rfl)).keepX hkp.size (fun k o s => .inl s)
                · rw [List.length_append]
                  exact hbx.set _
                · exact hkp.trans (Kept.setCell _ V ⟨W.heap.size, 0, none⟩ _ (fun _ _ => rfl))
              · have h1' : (x != (pre.length : Int)) = true := by simp [h1]
                have HP : ¬ (pre ++ [x] <+: rng k) := fun h => h1 (HN.out h)
                clear h1
                gi_wp2
                exact ⟨(KeepsOthers.setCell V _ _).from _, .inr ⟨rfl, HP⟩⟩
          · rintro D2 ys V hD2 e ⟨⟨hp, hpl⟩, hbx, hkp⟩ hK
            subst e
            rw [HRl.out] at hpl hbx
            have hVs := hkp.size
            have q7 := (q6.kept1 bA6 (by decide) (by decide) hkp).bel ((Bel.refl V).drew)
            have c1 := (box_kept b16 hkp (by omega)).cell
            have cN := (box_kept bN6 hkp (by omega)).cell
            have cP := (box_kept bP6 hkp (by omega)).cell
            have cA := hbx.cell
            have bR7 := box_kept bR6 hkp (by omega)
            have cR := bR7.cell
            have fR := bR7.frozen
            have B7 := kept_bel hkp BW6 (by omega)
            have hK7 : V.heap[D]? = some (.deferred (some [])) := hkp.block D _ hK6 (by omega)
            have l1 := bR7.lt
            have HK : Hid (ks.length = k) := HL
            have hwr : IntKind.i64.wrap x1 = x1 := by rw [IntKind.wrap_i64]; omega
            have hmin : (if x1 < (k : Int) then x1 else (k : Int)) = (k : Int) := by
              first | rw [if_neg (by omega)] | rw [if_pos (by omega)]
            have hsame : (((k : Int) : Int) == (k : Int)) = true := by simp
            have hsk : ((k : Int) == (k : Int)) = true := by simp
            have hlt : ¬ (x1 < (k : Int)) := by omega
            have n1 : wr.heap.size ≠ w.heap.size + 1 + 1 := by omega
            have n2 : W.heap.size ≠ w.heap.size + 1 + 1 := by omega
            have n3 : w.heap.size + 1 + 1 ≠ wr.heap.size := by omega
            have n4 : w.heap.size + 1 + 1 ≠ W.heap.size := by omega
            gi_wp2
            refine wpIn_wide.2 ?_
            go_region_held3 (fun w' => w'.cell? ⟨wr.heap.size, 0, none⟩ = some (.int .i64 (k : Int)) ∧ w'.cell? ⟨w.heap.size + 1 + 1 + 1 + 1 + 1, 0, none⟩ = some (.int .i64 k) ∧ w'.cell? ⟨w.heap.size + 1, 0, none⟩ = some (.int .u8 x1) ∧ w'.cell? ⟨W.heap.size, 0, none⟩ = some (.int .i64 (k : Int))) (go_keep) (first
              | (go_at_call 14; refine (len_any w.heap.size (w.heap.size + 1 + 1 + 1) ks _ q7).mono ?_; rintro e w8 ⟨rfl, e8⟩; subst e8; rw [HK.out])
              | (go_at_call 15; refine (awake_any _).mono ?_; rintro e w9 ⟨rfl, b9⟩; have d1 := ((bcell b9).1 (w.heap.size + 1) 0 (by simp; omega)).trans c1; have dN := ((bcell b9).1 (w.heap.size + 1 + 1 + 1 + 1 + 1) 0 (by simp; omega)).trans cN; have dP := ((bcell b9).1 wr.heap.size 0 (by simp; omega)).trans cP; have dA := ((bcell b9).1 W.heap.size 0 (by simp; omega)).trans cA; have dR := ((bcell b9).1 (w.heap.size + 1 + 1) 0 (by simp; omega)).trans cR; have eR := ((bcell b9).2 (w.heap.size + 1 + 1) 0 (by simp; omega)).trans fR))
            all_goals gi_wp2
            all_goals
              have hs9 := b9.size
              have hsV : V.drew.heap.size = V.heap.size := rfl
              have hD2V := lt_of_heap hK
              have hDV := lt_of_heap hK7
              have z9 := (box_bel (W := V.drew) bR7 b9).set (.bool true)
              have hKa : (w9.setCell ⟨w.heap.size + 1 + 1, 0, none⟩ (.bool true)).heap[D2]? = some (.deferred (some [])) := (heap_set_other (by omega)).trans ((b9.out.block D2 hD2V).trans hK)
              have hKb : ((w9.setCell ⟨w.heap.size + 1 + 1, 0, none⟩ (.bool true)).putObj D2 (.deferred none)).heap[D]? = some (.deferred (some [])) := (World.putObj_heap_other (by omega)).trans ((heap_set_other (by omega)).trans ((b9.out.block D hDV).trans hK7))
              have zf : Boxed (((w9.setCell ⟨w.heap.size + 1 + 1, 0, none⟩ (.bool true)).putObj D2 (.deferred none)).putObj D (.deferred none)) (w.heap.size + 1 + 1) 4 (.bool true) := (World.putObj_heap_other (by omega)).trans ((World.putObj_heap_other (by omega)).trans z9)
              have B9 : Bel w (w9.setCell ⟨w.heap.size + 1 + 1, 0, none⟩ (.bool true)) := (btrans B7.drew b9).setCell (by simp; omega) _
              have B10 : Bel w (((w9.setCell ⟨w.heap.size + 1 + 1, 0, none⟩ (.bool true)).putObj D2 (.deferred none)).putObj D (.deferred none)) := (B9.out.trans (belowK_b (w := w) (Nat.le_refl _) _ D2 _ _ (by omega) hKa rfl rfl)).trans (belowK_b (w := w) (Nat.le_refl _) _ D _ _ (by omega) hKb rfl rfl)
              have cf := zf.cell
              refine ⟨by simp, .inl ⟨_, _, rfl, run_takeDeferred hKa, ?_⟩⟩
              refine ⟨by simp, .inl ⟨_, _, rfl, run_takeDeferred hKb, ?_⟩⟩
              refine ⟨.bool true, ?_, rfl, B10⟩
              simp only [results, Try.results6]
              go_simp
          · rintro D2 c pre V hD2 hp (⟨⟨hce, hpl⟩, hbx, hkp⟩ | ⟨hce, hn⟩) hK
            · subst hce
              have hside2 : x1 < (k : Int) := by
                have := hp.length_le
                rw [HRl.out] at this
                omega
              exfalso
              omega
            · exact absurd hp hn
        · rintro D c pre W hD hp (⟨⟨hce, hpl⟩, hbx, hkp⟩ | ⟨hce, hn⟩) hK
          · subst hce
            have hside : x1 < (k : Int) := by
              have := hp.length_le
              rw [HTl.out] at this
              omega
            clear hp hpl
            have BW5 := kept_bel hkp BW4 (by omega)
            have q5 := q4.kept1 bP4 (by decide) (by decide) hkp
            have s5 := s4.kept1 bP4 (by omega) hrp hkp
            have hWs := hkp.size
            have hDW := lt_of_heap hK
            have bA : Boxed (W.alloc (.cells #[.int .i64 0] 3)) W.heap.size 3 (.int .i64 0) := Boxed.new W _ _
            have s6 := s5.bel ((Bel.refl W).alloc (.cells #[.int .i64 0] 3))
            gi_wp2_with (refine ⟨trivial, ?_⟩; gi_at_call 19; refine (callsIn_wide.2 (sall_any w.heap.size (w.heap.size + 1 + 1 + 1 + 1) _ mp (rng k) _ s6)).mono ?_; rintro e w6 ⟨rfl, e6'⟩; have E6 : Hid (w6 = (W.alloc (.cells #[.int .i64 0] 3)).alloc (.cells #[.slice so (rng k).length scap] 22)) := e6'; clear e6'; simp only [World.size_alloc])
            have e6 := E6.out
            clear E6
            have BWW6 : Bel W w6 := by rw [e6]; exact ((Bel.refl W).alloc _).alloc _
            have bA6 : Boxed w6 W.heap.size 3 (.int .i64 0) := by rw [e6]; exact bA.alloc _
            have bS6 : Boxed w6 (W.heap.size + 1) 22 (.slice so (rng k).length scap) := by rw [e6]; exact box_new2 W _ _ _
            have hs6 : W.heap.size + 2 ≤ w6.heap.size := by rw [e6]; simp
            have hL6 : HeldX w6.heap.size (fun k => k = W.heap.size) w6 so (rng k) := fun hp => by
              obtain ⟨g, o, e, hg, hc⟩ := s5.held hp
              exact ⟨g, o, e, by omega, by omega, fun j hj => ((bcell BWW6).1 g (o + j) hg).trans (hc j hj)⟩
            have BW6 := btrans BW5 BWW6
            have b16 := box_bel (box_kept b1 hkp (by omega)) BWW6
            have bR6 := box_bel (box_kept bR hkp (by omega)) BWW6
            have bN6 := box_bel (box_kept bN hkp (by omega)) BWW6
            have bP6 := box_bel hbx BWW6
            have q6 := q5.bel BWW6
            have hK6 := (BWW6.out.block D hDW).trans hK
            have HR : Hid (∀ j, j < k → (rng k)[j]? = some (j : Int)) := rng_at k
            have HRl : Hid ((rng k).length = k) := rng_length k
            clear e6 bA s6 s5 q5 hkp hbx hK bP4 q4 s4 bL b1 bR bN HT HTl
            refine wpIn_rangeFunc_ownG rfl (by omega) (gf := 28) (lb := #[.pointer (some ⟨W.heap.size + 1, 0, none⟩)]) rfl trivial (enters_of Try.func28 (by kernel_rfl) rfl)
              (sall_stops Fence.wide 3 trivial rfl (by omega) (W.heap.size + 1) w6.heap.size (fun k => k = W.heap.size) so scap (rng k) (by rw [rng_length]; omega) w6 bS6 (Nat.le_refl _) hL6) keepX_t (keepX_b (Nat.le_refl _)) (Below.refl _ _) (fun _ => rfl)
              (fun (pre : List Int) V => (Hid (pre <+: rng k) ∧ (pre.length : Int) ≤ x1) ∧ Boxed V W.heap.size 3 (.int .i64 pre.length) ∧ Kept (fun k _ => k = W.heap.size) w6 V)
              (fun c pre V => ((c = .exit 4 ∧ (pre.length : Int) = x1 + 1) ∧ Boxed V W.heap.size 3 (.int .i64 x1) ∧ Kept (fun k _ => k = W.heap.size) w6 V) ∨ (c = .ret ∧ ¬ pre <+: rng k))
              (OwnFrom.and (ownFrom_pure _ _) (OwnFrom.and (Own.from (boxed_own W.heap.size 3 (fun pre : List Int => .int .i64 pre.length)) _) ownFrom_kept))
              (fun c s A B row hs hg hr => hs.imp (fun h => ⟨h.1, Own.from (boxed_own W.heap.size 3 (fun _ : List Int => .int .i64 x1)) _ s A B row h.2.1 hg hr, ownFrom_kept s A B row h.2.2 hg hr⟩) id)
              ⟨⟨List.nil_prefix, by simp; omega⟩, bA6, Kept.refl _ _⟩
              ?_ ?_ ?_ ?_ ?_
            rotate_left 1
            · intro l x V K hK
              gi_wp2
              exact hK
            · rintro l pre x V ⟨⟨hp, hpl⟩, hbx, hkp⟩ hlt
              have hltk : pre.length < k := by have := HRl.out; omega
              clear hlt
              have cP := hbx.cell
              have fP := hbx.frozen
              have c1 := (box_kept b16 hkp (by omega)).cell
              have bR' := box_kept bR6 hkp (by omega)
              have cR := bR'.cell
              have fR := bR'.frozen
              have hT := HR.out pre.length hltk
              have HN : Hid (pre ++ [x] <+: rng k → x = (pre.length : Int)) := fun h => by
                have := (snoc_prefix h).symm.trans hT
                injection this
              have HY : Hid (x = (pre.length : Int) → pre ++ [x] <+: rng k) := fun h => prefix_snoc hp.out (h ▸ hT)
              clear hT hp
              by_cases hb0 : (pre.length : Int) = x1
              · have hb1 : ((pre.length : Int) == x1) = true := by simp [hb0]
                have HE : Hid ((pre.length : Int) = x1) := hb0
                clear hb0 hpl
                gi_wp2
                exact ⟨KeepsFrom.refl _ _, .inl ⟨⟨rfl, by have := HE.out; simp; omega⟩, by have := HE.out; rw [← this]; exact hbx, hkp⟩⟩
              · have hb1 : ((pre.length : Int) == x1) = false := by simp [hb0]
                have hpl2 : (pre.length : Int) + 1 ≤ x1 := by omega
                clear hb0 hpl
                by_cases h1 : x = (pre.length : Int)
                · have h1' : (x != (pre.length : Int)) = false := by simp [h1]
                  have HP := HY.out h1
                  clear h1
                  gi_wp2
                  refine ⟨(KeepsOthers.setCell V ⟨W.heap.size, 0, none⟩ _).from _, ?_, ⟨HP, by simp; omega⟩, ?_, ?_⟩
                  · exact (Kept.setCell (fun k _ => k = W.heap.size) V ⟨W.heap.size, 0, none⟩ _ (fun _ _ => rfl)).keepX hkp.size (fun k o s => .inl s)
                  · rw [List.length_append]
                    exact hbx.set _
                  · exact hkp.trans (Kept.setCell _ V ⟨W.heap.size, 0, none⟩ _ (fun _ _ => rfl))
                · have h1' : (x != (pre.length : Int)) = true := by simp [h1]
                  have HP : ¬ (pre ++ [x] <+: rng k) := fun h => h1 (HN.out h)
                  clear h1
                  gi_wp2
                  exact ⟨(KeepsOthers.setCell V _ _).from _, .inr ⟨rfl, HP⟩⟩
            · rintro D2 ys V hD2 e ⟨⟨hp, hpl⟩, hbx, hkp⟩ hK
              subst e
              rw [HRl.out] at hpl hbx
              exfalso
              omega
            · rintro D2 c pre V hD2 hp (⟨⟨hce, hpl⟩, hbx, hkp⟩ | ⟨hce, hn⟩) hK
              · subst hce
                have hside2 : x1 < (k : Int) := by
                  have := hp.length_le
                  rw [HRl.out] at this
                  omega
                have hVs := hkp.size
                have q7 := (q6.kept1 bA6 (by decide) (by decide) hkp).bel ((Bel.refl V).drew)
                have c1 := (box_kept b16 hkp (by omega)).cell
                have cN := (box_kept bN6 hkp (by omega)).cell
                have cP := (box_kept bP6 hkp (by omega)).cell
                have cA := hbx.cell
                have bR7 := box_kept bR6 hkp (by omega)
                have cR := bR7.cell
                have fR := bR7.frozen
                have B7 := kept_bel hkp BW6 (by omega)
                have hK7 : V.heap[D]? = some (.deferred (some [])) := hkp.block D _ hK6 (by omega)
                have l1 := bR7.lt
                have HK : Hid (ks.length = k) := HL
                have hwr : IntKind.i64.wrap x1 = x1 := by rw [IntKind.wrap_i64]; omega
                have hmin : (if x1 < (k : Int) then x1 else (k : Int)) = x1 := by
                  first | rw [if_neg (by omega)] | rw [if_pos (by omega)]
                have hsame : ((x1 : Int) == x1) = true := by simp
                have hsk : ((k : Int) == (k : Int)) = true := by simp
                have hlt : x1 < (k : Int) := hside
                have n1 : wr.heap.size ≠ w.heap.size + 1 + 1 := by omega
                have n2 : W.heap.size ≠ w.heap.size + 1 + 1 := by omega
                have n3 : w.heap.size + 1 + 1 ≠ wr.heap.size := by omega
                have n4 : w.heap.size + 1 + 1 ≠ W.heap.size := by omega
                gi_wp2
                refine wpIn_wide.2 ?_
                go_region_held3 (fun w' => w'.cell? ⟨wr.heap.size, 0, none⟩ = some (.int .i64 x1) ∧ w'.cell? ⟨w.heap.size + 1 + 1 + 1 + 1 + 1, 0, none⟩ = some (.int .i64 k) ∧ w'.cell? ⟨w.heap.size + 1, 0, none⟩ = some (.int .u8 x1) ∧ w'.cell? ⟨W.heap.size, 0, none⟩ = some (.int .i64 x1)) (go_keep) (first
                  | (go_at_call 14; refine (len_any w.heap.size (w.heap.size + 1 + 1 + 1) ks _ q7).mono ?_; rintro e w8 ⟨rfl, e8⟩; subst e8; rw [HK.out])
                  | (go_at_call 15; refine (awake_any _).mono ?_; rintro e w9 ⟨rfl, b9⟩; have d1 := ((bcell b9).1 (w.heap.size + 1) 0 (by simp; omega)).trans c1; have dN := ((bcell b9).1 (w.heap.size + 1 + 1 + 1 + 1 + 1) 0 (by simp; omega)).trans cN; have dP := ((bcell b9).1 wr.heap.size 0 (by simp; omega)).trans cP; have dA := ((bcell b9).1 W.heap.size 0 (by simp; omega)).trans cA; have dR := ((bcell b9).1 (w.heap.size + 1 + 1) 0 (by simp; omega)).trans cR; have eR := ((bcell b9).2 (w.heap.size + 1 + 1) 0 (by simp; omega)).trans fR))
                all_goals gi_wp2
                all_goals
                  have hs9 := b9.size
                  have hsV : V.drew.heap.size = V.heap.size := rfl
                  have hD2V := lt_of_heap hK
                  have hDV := lt_of_heap hK7
                  have z9 := (box_bel (W := V.drew) bR7 b9).set (.bool true)
                  have hKa : (w9.setCell ⟨w.heap.size + 1 + 1, 0, none⟩ (.bool true)).heap[D2]? = some (.deferred (some [])) := (heap_set_other (by omega)).trans ((b9.out.block D2 hD2V).trans hK)
                  have hKb : ((w9.setCell ⟨w.heap.size + 1 + 1, 0, none⟩ (.bool true)).putObj D2 (.deferred none)).heap[D]? = some (.deferred (some [])) := (World.putObj_heap_other (by omega)).trans ((heap_set_other (by omega)).trans ((b9.out.block D hDV).trans hK7))
                  have zf : Boxed (((w9.setCell ⟨w.heap.size + 1 + 1, 0, none⟩ (.bool true)).putObj D2 (.deferred none)).putObj D (.deferred none)) (w.heap.size + 1 + 1) 4 (.bool true) := (World.putObj_heap_other (by omega)).trans ((World.putObj_heap_other (by omega)).trans z9)
                  have B9 : Bel w (w9.setCell ⟨w.heap.size + 1 + 1, 0, none⟩ (.bool true)) := (btrans B7.drew b9).setCell (by simp; omega) _
                  have B10 : Bel w (((w9.setCell ⟨w.heap.size + 1 + 1, 0, none⟩ (.bool true)).putObj D2 (.deferred none)).putObj D (.deferred none)) := (B9.out.trans (belowK_b (w := w) (Nat.le_refl _) _ D2 _ _ (by omega) hKa rfl rfl)).trans (belowK_b (w := w) (Nat.le_refl _) _ D _ _ (by omega) hKb rfl rfl)
                  have cf := zf.cell
                  refine ⟨by simp, .inl ⟨_, _, rfl, run_takeDeferred hKa, ?_⟩⟩
                  refine ⟨by simp, .inl ⟨_, _, rfl, run_takeDeferred hKb, ?_⟩⟩
                  refine ⟨.bool true, ?_, rfl, B10⟩
                  simp only [results, Try.results6]
                  go_simp
              · exact absurd hp hn
          · exact absurd hp hn

set_option maxRecDepth 100000 in
theorem lifted (os : Os) (started : os.Started) (H : Type) (enc : TypeId × Value → H) :
    ReturnsInHanded {} Try.checked os 6 .any (Rows.bagEndsSpec.pre6 enc Try.prog Try.f6 Rows.bagEndsRow.domain false) (Rows.bagEndsSpec.post enc Try.prog Try.f6 false true false false) := by
  refine returnsInHanded_of_change (C := Try.checked) own started (by kernel_rfl) Try.func6
    (ChangeSpec.witness6 (enc := enc) (C := Try.checked) false ⟨#[], #[.slice none 0 0, .int .u8 0], []⟩ 8 (by kernel_rfl) (by kernel_rfl) (by kernel_rfl) (by kernel_rfl)) ?_
  intro W base args ds gs before hval0 hW hcnd _
  have hval : ∀ (j : Nat) t v, Try.f6.params[j]? = some t → args[j]? = some v → Value.okWide Try.prog W .any base t v := hval0
  have hW' := hW
  obtain ⟨p, q, hA0, hV, rfl, hfz, hnd⟩ := hW
  have hA : DataW.TrodAll enc Try.prog W 0 (fun _ => true) true Try.f6.params.toList args.toList ds p := hA0
  rw [Try.params6] at hA hval
  obtain ⟨v0, vs0, d0, ds0, p0, q0, hargs, rfl, rfl, h0, r0⟩ := trodAll_cons hA
  obtain ⟨v1, vs1, d1, ds1, p1, q1, rfl, rfl, rfl, h1, r1⟩ := trodAll_cons r0
  obtain ⟨rfl, rfl, rfl⟩ := trodAll_nil r1
  obtain rfl : args = #[v0, v1] := by cases args; simp_all
  obtain ⟨rfl, rfl⟩ := trodVars_none hV
  have k0 := h0
  have lt0 : ∀ x ∈ p0, x.block < W.heap.size := by obtain ⟨m, hm⟩ := k0; exact DataW.trod_lt m _ _ _ hm
  obtain ⟨X0, wy0, vy0⟩ := open_intsK Try.underlying22 Try.underlying3 (by kernel_rfl) (hval 0 22 v0 rfl rfl) h0
  obtain ⟨x1, rfl, rfl, rfl, wx1⟩ := open_int Try.underlying5 (hval 1 5 v1 rfl rfl) h1
  clear hA0 hval0
  refine (walk W v0 X0 wy0 vy0 x1 wx1).mono fun e W' ⟨he, bel⟩ => ?_
  subst he
  exact ⟨_, rfl, _, _, _, [], _, [], hW', trodAll_mk1 (shut_bool Try.underlying4 _), (trodAll_cons_mk (Below.trod laidOut (by kernel_rfl) (of_decide_eq_true (by kernel_rfl)) k0 bel.out lt0) (trodAll_cons_mk (shut_int Try.underlying5 wx1) trodAll_mk0)), rfl, bel.out.frame _, fun h => by cases h⟩

theorem over : Rows.bagEndsRow.holds Try.pinned (OpenSpec.ofChange Rows.bagEndsSpec) :=
  OpenClaim.holds_of_wide 6 Try.f6 rfl rfl rfl rfl rfl rfl rfl ⟨rfl, rfl, rfl, rfl, rfl⟩ rfl rfl rfl rfl rfl (by kernel_rfl) Try.func6 (by kernel_rfl)
    (of_decide_eq_true (by kernel_rfl)) (by unfold Func.isWrapper; first | (rw [if_pos (by decide +kernel)]; kernel_rfl) | (rw [if_neg (by decide +kernel)]; exact ⟨rfl, rfl⟩))
    (fun os started H enc _ => lifted os started H enc)

theorem proved : Rows.BagEndsSaid :=
  over
#print axioms proved
end Go.Proofs.Ytfgejepjiifmlaa.bagEnds
