/-
  soonReady and stands.
  stands.
  next.
-/
import Derived.Test.YtpmofaajkhllpaaLq11
import Derived.Test.YtpmofaajkhllpaaAn
namespace Go.Proofs.Ytpmofaajkhllpaa
set_option maxRecDepth 20000
section
set_option linter.unusedVariables false
open Go.ChangeShapes Go.WideShapes Go.ChangeAt Go.RowKit

def keys (ks : List (Nat × Int)) : List Int := ks.map Prod.snd
theorem LS.q {n₀ b ag : Nat} {W W' : World} (h : Kept (QS n₀ b) W W') : Kept (LS n₀ b ag) W W' := h.mono fun _ _ _ s => s.ls
theorem LS.r {n₀ b ag : Nat} {W W' : World} (h : Kept (RS n₀ b) W W') : Kept (LS n₀ b ag) W W' := h.mono fun _ _ _ s => s.ls

def manyOf (b : Nat) (w : World) : Nat := match w.cell? ⟨b, 6, none⟩ with
  | some (.int _ n) => n.toNat
  | _ => 0
def okOf : Value → Nat
  | .bool true => 1
  | _ => 0
theorem LineM.many {n₀ hi : Nat} {W : World} {b : Nat} {X : List Ins} {hg hc ag bg : Nat} {bv : Nat → Value} {F : Nat → List Pr} {rv : Value} {aw : Nat → Int} {R : List Pr} {ks : List (Nat × Int)} (h : LineM n₀ hi W b X hg hc ag bg bv F rv aw R ks) : manyOf b W = ks.length := by
  unfold manyOf
  rw [h.cells.2.2.2.2.2.2]
  simp

set_option maxHeartbeats 4000000 in
theorem soon_any (n₀ hi b : Nat) (X : List Ins) (hg hc ag bg : Nat) (bv : Nat → Value) (F : Nat → List Pr) (rv : Value) (aw : Nat → Int) (R : List Pr) (ks : List (Nat × Int)) (hks : ∀ x ∈ keys ks, ∃ j : Nat, x = j ∧ j < X.length) (hX : X.length ≤ 1000) (hlen : R.length + ks.length ≤ X.length) (W : World)
    (h : LineM n₀ hi W b X hg hc ag bg bv F rv aw R ks) :
    Calls Try.prog 39 #[.pointer (some ⟨b, 0, none⟩)] W fun e W' => e = .returned (.tuple #[]) ∧ ∃ rv' R', LineM n₀ hi W' b X hg hc ag bg bv F rv' aw R' [] ∧ R'.Perm ((keys ks).map (cand X) ++ R) ∧ Kept (LS n₀ b ag) W W' := by
  -- what Pop tells at whatever queue
  have hpop : ∀ (ks : List (Nat × Int)) (rv : Value) (R : List Pr) (ww : World), ks.length ≤ 1000 → LineM n₀ hi ww b X hg hc ag bg bv F rv aw R ks → Calls Try.prog 53 #[.pointer (some ⟨b, 4, none⟩)] ww fun e W' => ∃ (x : Int) (ok : Bool), e = .returned (.tuple #[.int .i64 x, .bool ok]) ∧ LineM n₀ hi W' b X hg hc ag bg bv F rv aw R ks.tail ∧ Kept (QS n₀ b) ww W' ∧ ((ok = false ∧ ks = []) ∨ (ok = true ∧ ∃ k, ks = (k, x) :: ks.tail)) := by
    intro ks rv R ww hl hh
    cases ks with
    | nil => exact (qpop_nil n₀ hi b X hg hc ag bg bv F rv aw R ww hh).mono fun e w' ⟨h1, h2⟩ => ⟨0, false, h1, by subst h2; exact hh, by subst h2; exact Kept.refl _ _, .inl ⟨rfl, rfl⟩⟩
    | cons p s =>
      obtain ⟨k, x⟩ := p
      exact (qpop_cons n₀ hi b X hg hc ag bg bv F rv aw R k x s (by simp at hl; omega) ww hh).mono fun e w' ⟨h1, h2, h3⟩ => ⟨x, true, h1, h2, h3, .inr ⟨rfl, k, rfl⟩⟩
  go_enter Try.func39, Try.ntmps39
  go_wp2_with (go_at_call 53; refine (hpop ks rv R W (by omega) h).mono ?_; rintro e w1 ⟨x0, ok0, rfl, m1, k1, o1⟩)
  go_loopw [2, 3] (fun i t wr => ∃ (x : Int) (ok : Bool) (k2 : List (Nat × Int)) (rv2 : Value) (R2 : List Pr), i = .int .i64 x ∧ t = .bool ok ∧ LineM n₀ hi wr b X hg hc ag bg bv F rv2 aw R2 k2.tail ∧ Hid ((ok = false ∧ k2 = []) ∨ (ok = true ∧ ∃ k, k2 = (k, x) :: k2.tail)) ∧ Hid (((keys k2).map (cand X) ++ R2).Perm ((keys ks).map (cand X) ++ R)) ∧ Hid (k2.length ≤ ks.length) ∧ Hid (∀ x ∈ keys k2, ∃ j : Nat, x = j ∧ j < X.length) ∧ Kept (LS n₀ b ag) W wr) (fun i t w => okOf t + manyOf b w)
  case atStart => exact ⟨x0, ok0, ks, rv, R, rfl, rfl, m1, o1, List.Perm.refl _, Nat.le_refl _, hks, LS.q k1⟩
  case round =>
    obtain ⟨x, ok, k2, rv2, R2, rfl, rfl, hM, hO, hP, hN, hB, hK⟩ := hrel
    rename World => wr
    have hm0 := hM.many
    rcases hO.out with ⟨rfl, e⟩ | ⟨rfl, k, e⟩
    · have hP0 := hP.out
      subst e
      have HP := hidm hP0.symm
      clear hP hN hO hP0 hB
      have hM' : LineM n₀ hi wr b X hg hc ag bg bv F rv2 aw R2 [] := hM
      go_wp2
      go_end0
      exact ⟨rfl, rv2, R2, hM', HP.out.symm, hK⟩
    · obtain ⟨s, rfl⟩ : ∃ s, k2 = (k, x) :: s := ⟨_, e⟩
      clear e hO
      have hM1 : LineM n₀ hi wr b X hg hc ag bg bv F rv2 aw R2 s := hM
      have hl2 := hN.out
      have hpl := hP.out.length_eq
      simp only [List.length_append, List.length_map, keys, List.length_cons] at hpl hl2
      obtain ⟨j, hxj, hj⟩ : ∃ j : Nat, x = j ∧ j < X.length := by
        exact hB.out x (by simp [keys])
      have hB2 : Hid (∀ x ∈ keys s, ∃ j : Nat, x = j ∧ j < X.length) := fun y hy => hB.out y (by simp only [keys, List.map_cons, List.mem_cons] at hy ⊢; exact .inr hy)
      clear hB
      subst hxj
      clear hM
      have hP1 := hP.out
      have HPP : Hid (∀ R', R'.Perm (((j : Int), hAt X j) :: R2) → ((keys s).map (cand X) ++ R').Perm ((keys ks).map (cand X) ++ R)) := fun R' hr => by
        refine List.Perm.trans ?_ hP1
        have e : (keys ((k, (j : Int)) :: s)).map (cand X) = ((j : Int), hAt X j) :: (keys s).map (cand X) := by simp [keys, cand]
        rw [e, List.cons_append]
        exact (hr.append_left _).trans List.perm_middle
      clear hP hP1
      go_wp2_with (first
        | (have q := mm2; go_at_call 53; refine (hpop s rv3 R3 _ (by omega) mm1).mono ?_; rintro e w3 ⟨x3, ok3, rfl, m3, k3, o3⟩)
        | (go_at_call 38; refine (may_any n₀ hi b X hg hc ag bg bv F rv2 aw R2 s j hj (by omega) wr hM1).mono ?_; rintro e w2 ⟨rfl, rv3, R3, mm1, mm2, mm3⟩))
      have hm3 := m3.many
      go_roundw
      case rel => exact ⟨x3, ok3, s, rv3, R3, rfl, rfl, m3, o3, HPP.out R3 mm2, by show s.length ≤ _; omega, hB2, (hK.trans (LS.r mm3)).trans (LS.q k3)⟩
      case measure =>
        simp only [okOf]
        rw [hm3, hm0]
        rcases o3 with ⟨rfl, rfl⟩ | ⟨rfl, kk, e⟩
        · simp
        · have := congrArg List.length e
          simp only [List.length_cons] at this
          simp only [List.tail_cons]
          omega
end
section
set_option linter.unusedVariables false
open Go.ChangeShapes Go.WideShapes Go.ChangeAt Go.RowKit

/-- One does not stand (so that the walk leaves it as it is). -/
def NS (Z : List Int) (c : Nat) : Prop := ¬ Stands Z c
theorem own_at2 {W : World} {n₀ : Nat} {e : TypeId} {g n cap : Nat} {L : List Pr} (h : W.ownsRow n₀ e 2 (.slice (some ⟨g, 0, none⟩) n cap) n (flat2 L)) (hn : n = L.length) : g < W.heap.size ∧ ∀ k, k < n → W.cell? ⟨g, k * 2, none⟩ = some (.int .i64 (L.getD k pz).1) ∧ W.cell? ⟨g, k * 2 + 1, none⟩ = some (.int .i64 (L.getD k pz).2) := by
  subst hn
  obtain ⟨ao, cap', e1, h2⟩ := own_form h
  cases e1
  by_cases h0 : 0 < L.length
  · obtain ⟨g', e2, _, q2, _, q4⟩ := h2 h0
    cases e2
    exact ⟨q2, q4⟩
  · refine ⟨?_, fun k hk => by omega⟩
    rcases h.2 with ⟨q, _⟩ | ⟨_, _, _, q, _, q2, _⟩
    · cases q
    · cases q; exact lt_of_heap q2
theorem LineM.set {n₀ hi : Nat} {W : World} {b : Nat} {X : List Ins} {hg hc ag bg : Nat} {bv : Nat → Value} {F : Nat → List Pr} {rv : Value} {aw : Nat → Int} {R : List Pr} {ks : List (Nat × Int)} (h : LineM n₀ hi W b X hg hc ag bg bv F rv aw R ks) (j : Nat) (x : Int) :
    LineM n₀ hi (W.setCell ⟨ag, j, none⟩ (.int .i64 x)) b X hg hc ag bg bv F rv (updN aw j x) R ks ∧ Kept (LS n₀ b ag) W (W.setCell ⟨ag, j, none⟩ (.int .i64 x)) := by
  have k : Kept (fun k _ => k = ag) W (W.setCell ⟨ag, j, none⟩ (.int .i64 x)) := Kept.setCell _ _ _ _ (fun _ _ => rfl)
  obtain ⟨n1, n2, n3⟩ := h.ne
  have key : ∀ g c t, W.heap[g]? = some (.cells c t) → t ≠ 3 → g ≠ ag := fun g c t hg ht e => by
    rw [e, h.awt] at hg
    injection hg with hg
    injection hg with _ hg _
    exact ht hg.symm
  refine ⟨⟨⟨k.block b _ h.rdy.box n2.symm, ?_, h.rdy.low⟩, h.heap, k.block hg _ h.hts h.hne, int_set h.awt j x, ⟨k.block bg _ h.beh.beh (key _ _ _ h.beh.beh (by decide)), fun i hi => ?_, h.beh.dis, h.beh.low⟩, h.lnk.kept k (fun g c q => key g c _ q (by decide)), h.hgl, h.agl, h.hne⟩, k.mono fun i o _ s => .inr (.inl s)⟩
  · refine own2_kept h.rdy.row k fun g c f q s => ?_
    obtain ⟨_, cur, hc⟩ := own2_block h.rdy.row g q
    exact key g _ _ hc (by decide) s
  · refine own2_kept (h.beh.rows i hi) k fun g c f q s => ?_
    obtain ⟨_, cur, hc⟩ := own2_block (h.beh.rows i hi) g q
    exact key g _ _ hc (by decide) s
theorem LineM.drew {n₀ hi : Nat} {W : World} {b : Nat} {X : List Ins} {hg hc ag bg : Nat} {bv : Nat → Value} {F : Nat → List Pr} {rv : Value} {aw : Nat → Int} {R : List Pr} {ks : List (Nat × Int)} (h : LineM n₀ hi W b X hg hc ag bg bv F rv aw R ks) : LineM n₀ hi W.drew b X hg hc ag bg bv F rv aw R ks := h.bel (Bel.refl W).drew

set_option maxHeartbeats 4000000 in
theorem stands_any (n₀ hi b : Nat) (X : List Ins) (Z : List Int) (hg hc ag bg : Nat) (bv : Nat → Value) (rv : Value) (aw : Nat → Int) (R : List Pr) (ks : List (Nat × Int)) (c : Nat) (hcX : c < X.length) (hX : X.length ≤ 1000) (hs : Steps X (Z ++ [(c : Int)])) (hn : ¬ Stands Z c) (W : World)
    (h : LineM n₀ hi W b X hg hc ag bg bv (fun i => behL X i X.length) rv aw R ks) (hS : SI X Z c 0 aw R (keys ks)) :
    Calls Try.prog 41 #[.pointer (some ⟨b, 0, none⟩), .int .i64 c] W fun e W' => e = .returned (.tuple #[]) ∧ ∃ rv' aw' R' ks', LineM n₀ hi W' b X hg hc ag bg bv (fun i => behL X i X.length) rv' aw' R' ks' ∧ SI X Z c (behL X c X.length).length aw' R' (keys ks') ∧ Kept (LS n₀ b ag) W W' := by
  obtain ⟨ao, cap, hbv, _⟩ := own_form (h.beh.rows c hcX)
  have hbl := behL_len X c X.length
  have hbl2 : (behL X c X.length).length ≤ 1100000 := by
    have : X.length * (X.length + 4) ≤ 1000 * 1004 := Nat.mul_le_mul hX (by omega)
    omega
  generalize hFL : (behL X c X.length).length = m at hbl2 hbv ⊢
  have kb := h.cells.2.2.1
  have kc : W.cell? ⟨bg, c, none⟩ = some (.slice ao m cap) := by
    refine (cell_of h.beh.beh c).trans ?_
    simp [hcX]
    exact hbv
  have hcl : (c : Int) < X.length := by omega
  have HM := hidm h
  have HS0 := hidm hS
  have HN : NS Z c := hn
  have HST := hidm hs
  clear h hS hbl hn hs
  go_enter Try.func41, Try.ntmps41
  go_wp2
  go_loopw [14] (fun i wr => ∃ (k : Nat) (rv2 : Value) (aw2 : Nat → Int) (R2 : List Pr) (ks2 : List (Nat × Int)), k ≤ m ∧ i = .int .i64 k ∧ LineM n₀ hi wr b X hg hc ag bg bv (fun i => behL X i X.length) rv2 aw2 R2 ks2 ∧ SI X Z c k aw2 R2 (keys ks2) ∧ Kept (LS n₀ b ag) W wr) (fun i _ => m - (intOf i).toNat)
  case atStart => exact ⟨0, rv, aw, R, ks, Nat.zero_le _, rfl, HM.out, HS0.out, Kept.refl _ _⟩
  case round =>
    obtain ⟨k, rv2, aw2, R2, ks2, hk, rfl, hM, hS, hK⟩ := hrel
    rename World => wr
    clear kb kc HM HS0
    by_cases hlt : k < m
    · obtain ⟨j, hj, hfj, haw1, hnj, hrj, hstep⟩ := hS.at_ HST.out HN (by omega)
      have hrow := hM.beh.rows c hcX
      have HFL := hidm hFL
      simp only [hFL] at hrow
      rw [hbv] at hrow
      obtain ⟨g, rfl⟩ : ∃ g, ao = some ⟨g, 0, none⟩ := by
        rcases hrow.2 with ⟨_, q⟩ | ⟨g, _, _, q, _⟩
        · omega
        · injection q with q; exact ⟨g, q⟩
      obtain ⟨hgl, hcc⟩ := own_at2 hrow hFL.symm
      obtain ⟨r0, r1⟩ := hcc k hlt
      rw [hfj] at r0 r1
      simp only at r0 r1
      have hd := farI_bd (xAt X c) (xAt X j)
      have ha10 : aw2 j ≤ 10000 := by
        have e1 := hS.aws j hj
        have e2 : awW X Z j ≤ (ofL X j).length := List.length_filter_le _ _
        have e3 := ofL_len X j
        omega
      have HNJ : NS (Z ++ [(c : Int)]) j := hnj
      clear hnj
      have HS := hidm hS
      have HSTEP := hidm hstep
      have HRJ := hidm hrj
      clear hstep hS hrow hcc hfj hFL hrj
      obtain ⟨_, q1, _, _, _, _, _⟩ := hM.cells
      have qa := int_cell hM.awt j hj
      have fa := int_fz hM.awt j
      have hjl : (j : Int) < X.length := by omega
      have hbw := hM.blt
      have hagw := lt_of_heap hM.awt
      have HML := hidm hM
      clear hM
      generalize hd0 : farI (xAt X c) (xAt X j) = d at *
      generalize ha0 : aw2 j = a at *
      go_wp2
      go_region
      have hM3 := ((HML.out.set j (a - 1)).1.bel ((Bel.refl _).alloc (Obj.cells #[Value.int IntKind.i64 (j : Int), Value.int IntKind.i64 d] 57))).drew
      have hK3 : Kept (LS n₀ b ag) wr ((wr.setCell ⟨ag, j, none⟩ (Value.int IntKind.i64 (a - 1))).alloc (Obj.cells #[Value.int IntKind.i64 (j : Int), Value.int IntKind.i64 d] 57)).drew := ((HML.out.set j (a - 1)).2.trans (Kept.alloc _ _ _)).trans (Kept.drew _ _)
      have hb3 : ((wr.setCell ⟨ag, j, none⟩ (Value.int IntKind.i64 (a - 1))).alloc (Obj.cells #[Value.int IntKind.i64 (j : Int), Value.int IntKind.i64 d] 57)).drew.heap[wr.heap.size]? = some (Obj.cells #[Value.int IntKind.i64 (j : Int), Value.int IntKind.i64 d] 57) := heap_newN (by simp)
      generalize ((wr.setCell ⟨ag, j, none⟩ (Value.int IntKind.i64 (a - 1))).alloc (Obj.cells #[Value.int IntKind.i64 (j : Int), Value.int IntKind.i64 d] 57)).drew = w3 at hM3 hK3 hb3 ⊢
      clear q1 qa fa r0 r1
      have haw : ∀ i, i < X.length → updN aw2 j (a - 1) i = if i = j then aw2 i - 1 else aw2 i := fun i _ => by
        unfold updN
        by_cases q : i = j
        · rw [if_pos q, if_pos q, q, ha0]
        · rw [if_neg q, if_neg q]
      have HAW := hidm haw
      have HA0 := hidm ha0
      clear haw ha0
      obtain ⟨_, q1, _, _, _, _, _⟩ := hM3.cells
      have qa := int_cell hM3.awt j hj
      rw [show updN aw2 j (a - 1) j = a - 1 by unfold updN; rw [if_pos rfl]] at qa
      have p0 : w3.cell? ⟨wr.heap.size, 0, none⟩ = some (.int .i64 j) := cell_of hb3 0
      have p1 : w3.cell? ⟨wr.heap.size, 1, none⟩ = some (.int .i64 d) := cell_of hb3 1
      have hw3 := lt_of_heap hb3
      have HM3 := hidm hM3
      have HB3 := hidm hb3
      clear hM3 hb3
      have hRl := HS.out.rs.len
      have hQl := HS.out.qs.len
      by_cases ha1 : a = 1
      · subst ha1
        have HRJ1 := hidm (HRJ.out rfl)
        by_cases hd1 : 1 < d
        · go_wp2
          go_region
          go_wp2
          go_region_with (go_at_call 55; refine (qpush_any n₀ hi b X hg hc ag bg bv _ rv2 _ R2 ks2 j (by simp only [keys, List.length_map] at hQl; omega) _ ((HM3.out.drew).drew)).mono ?_; rintro e w4 ⟨rfl, m4, k4⟩)
          all_goals
            go_wp2
            go_roundw
            case rel => exact ⟨k + 1, rv2, _, R2, _, by omega, by go_num, m4, by
                have := HS.out.soon hj HSTEP.out HAW.out (by rw [HA0.out]) HNJ (fun q => by have := HRJ1.out.1 q; omega)
                simpa [keys] using this, (hK.trans hK3).trans (((Kept.drew _ _).trans (Kept.drew _ _)).trans (LS.q k4))⟩
            case measure => simp [intOf]; omega
        · go_wp2
          go_region
          go_wp2_with (go_at_call 38; refine (may_any n₀ hi b X hg hc ag bg bv _ rv2 _ R2 ks2 j hj (by omega) _ (HM3.out.drew)).mono ?_; rintro e w4 ⟨rfl, rv3, R3, m4, p4, k4⟩)
          all_goals
            go_roundw
            case rel => exact ⟨k + 1, rv3, _, R3, ks2, by omega, by go_num, m4, HS.out.now hj HSTEP.out HAW.out (by rw [HA0.out]) HNJ (HRJ1.out.2 (by omega)) p4, (hK.trans hK3).trans ((Kept.drew _ _).trans (LS.r k4))⟩
            case measure => simp [intOf]; omega
      · have ha2 : 0 < a - 1 := by omega
        go_wp2
        go_region
        go_wp2
        go_roundw
        case rel => exact ⟨k + 1, rv2, _, R2, ks2, by omega, by go_num, HM3.out.drew, HS.out.more HSTEP.out HAW.out (by rw [HA0.out]; exact ha2), (hK.trans hK3).trans (Kept.drew _ _)⟩
        case measure => simp [intOf]; omega
    · obtain rfl : k = m := by omega
      go_wp2
      go_end0
      exact ⟨rfl, rv2, aw2, R2, ks2, hM, hS, hK⟩
end
section
set_option linter.unusedVariables false
open Go.ChangeShapes Go.WideShapes Go.ChangeAt Go.RowKit

theorem cand_assert' (c : Pr) (w : World) : Sem.run Try.prog (Instr.typeAssert (.iface 61 (Cnd c)) 20 61 false) w = .ok (.agg #[.int .i64 c.1, .int .i64 c.2]) w := cand_assert c.1 c.2 w
theorem cand_field (x y : Int) (w : World) : Sem.run Try.prog (Instr.field 61 (.agg #[.int .i64 x, .int .i64 y]) 0) w = .ok (.int .i64 x) w := by kernel_rfl
/-- Not all stand. -/
def NA (X : List Ins) (Z : List Int) : Prop := ∃ j, j < X.length ∧ ¬ Stands Z j
theorem LI.keys {X : List Ins} {Z : List Int} {aw : Nat → Int} {R : List Pr} {Q : List Int} (h : LI X Z aw R Q) : ∀ x ∈ Q, ∃ j : Nat, x = j ∧ j < X.length := fun x hx => by
  obtain ⟨j, hj, e, _⟩ := (h.qs.2 x).1 hx
  exact ⟨j, e, hj⟩
/-- What may stand, and what may soon, are different ones. -/
theorem LI.room {X : List Ins} {Z : List Int} {aw : Nat → Int} {R : List Pr} {Q : List Int} (h : LI X Z aw R Q) : R.length + Q.length ≤ X.length := by
  have := (IsR.app (P' := fun _ => True) h.rs h.qs (fun j _ a b => b.2.2 a)).len
  simp only [List.length_append, List.length_map] at this
  omega

set_option maxHeartbeats 4000000 in
theorem next_any (n₀ hi b : Nat) (X : List Ins) (Z : List Int) (hg hc ag bg : Nat) (bv : Nat → Value) (rv : Value) (aw : Nat → Int) (R : List Pr) (ks : List (Nat × Int)) (hX : X.length ≤ 1000) (hn : ∃ j, j < X.length ∧ ¬ Stands Z j) (W : World)
    (h : LineM n₀ hi W b X hg hc ag bg bv (fun i => behL X i X.length) rv aw R ks) (hL : LI X Z aw R (keys ks)) :
    Calls Try.prog 22 #[.pointer (some ⟨b, 0, none⟩)] W fun e W' => ∃ x : Int, e = .returned (.int .i64 x) ∧ BestP X Z x ∧ ∃ rv' aw' R' ks', LineM n₀ hi W' b X hg hc ag bg bv (fun i => behL X i X.length) rv' aw' R' ks' ∧ LI X (Z ++ [x]) aw' R' (keys ks') ∧ Kept (LS n₀ b ag) W W' := by
  obtain ⟨ao, cap, hrv, _⟩ := own_form h.rdy.row
  subst hrv
  have kr := h.cells.2.2.2.1
  have HM := hidm h
  have HL := hidm hL
  have HNN : NA X Z := hn
  have hroom := hL.room
  simp only [keys, List.length_map] at hroom
  have hsoon : ∀ ww rv R, LineM n₀ hi ww b X hg hc ag bg bv (fun i => behL X i X.length) rv aw R ks → R.length + ks.length ≤ X.length → _ := fun ww rv R hh hr => soon_any n₀ hi b X hg hc ag bg bv _ rv aw R ks hL.keys hX hr ww hh
  by_cases h0 : R.length = 0
  · obtain rfl : R = [] := List.eq_nil_of_length_eq_zero h0
    have kr' : W.cell? ⟨b, 3, none⟩ = some (.slice ao 0 cap) := kr
    have hs := hsoon W _ [] h hroom
    clear kr h hL hn hsoon
    go_enter Try.func22, Try.ntmps22
    go_wp2_with (go_at_call 39; refine hs.mono ?_; rintro e w2 ⟨rfl, rv2, R2, m2, p2, k2⟩)
    go_ret
    exact ⟨-1, rfl, HL.out.none, rv2, aw, R2, [], m2, HL.out.free HNN p2, k2⟩
  · have h0' : 0 < R.length := by omega
    have hpop := hpop_any n₀ b _ _ _ _ _ _ _ R h0' (by omega) W h.rdy h.heap
    have hlen : ((R.length : Int) == 0) = false := beq_eq_false_iff_ne.2 (by omega)
    have hta := cand_assert' (R.getD 0 pz)
    obtain ⟨j, hj0⟩ : ∃ j : Int, (R.getD 0 pz).1 = j := ⟨_, rfl⟩
    have hfl := cand_field j (R.getD 0 pz).2
    rw [hj0] at hta
    generalize R.getD 0 pz = c at *
    clear kr h hL hn
    have kr : W.cell? ⟨b, 3, none⟩ = some (.slice ao R.length cap) := HM.out.cells.2.2.2.1
    go_enter Try.func22, Try.ntmps22
    go_wp2_with (first
      | (have q := k3; go_at_call 41; refine (stands_any n₀ hi b X Z hg hc ag bg bv rv3 aw R3 [] i hi2 hX HST HNS _ m3 HSI.out).mono ?_; rintro e w4 ⟨rfl, rv4, aw4, R4, ks4, m4, s4, k4⟩)
      | (have q := k1; go_at_call 39; refine (hsoon _ _ R1 (HM.out.rdied m1 hh1 k1) (by have := p1.length_eq; simp at this; omega)).mono ?_; rintro e w3 ⟨rfl, rv3, R3, m3, p3, k3⟩; obtain ⟨i, hi2, hci, hri, hbi, hti⟩ := HL.out.best p1 l1; have hji : j = (i : Int) := (by rw [← hj0, hci]); subst hji; have HSI := hidm (HL.out.stand hi2 hri hbi hti p3); have HST : Steps X (Z ++ [(i : Int)]) := .snoc HL.out.steps HNN hbi; have HNS : NS Z i := hri.1; have HBI := hidm hbi; have HKK := hidm ((LS.r (ag := ag) k1).trans k3); clear hbi hri hti p3 hci hj0)
      | (go_at_call 40; refine hpop.mono ?_; rintro e w2 ⟨rfl, rv1, R1, m1, p1, hh1, l1, k1⟩))
    go_ret
    exact ⟨i, rfl, HBI.out, rv4, aw4, R4, ks4, m4, s4.done HST HNS, HKK.out.trans k4⟩
end
end Go.Proofs.Ytpmofaajkhllpaa
