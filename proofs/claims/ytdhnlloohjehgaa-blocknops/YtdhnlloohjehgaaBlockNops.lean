/-
  The law 'BlockNops' of delayslotlaw09 returns true at all code and numbers of Nops: Nops are one block; fit code with a Nop behind it is fit, and has the same heads, and that, if the last one goes, or one goes to the end.
  Conditions: none.
-/
import Derived.Test.YtdhnlloohjehgaaRows
import Derived.WalkKit
import Derived.ProofKit
import Derived.OpenShut
import Derived.ShutString
import Derived.ChangeOld
import Derived.Below
import Derived.Carry
import Derived.Test.YtdhnlloohjehgaaAwk9
import Derived.Test.YtdhnlloohjehgaaMk9
import Derived.Test.YtdhnlloohjehgaaHn
namespace Go.Proofs.Ytdhnlloohjehgaa.blockNops
open Go.ChangeShapes Go.WideShapes Go.ChangeAt Go.RowKit
open Go.ChangeMaps (open_string shut_string)
set_option linter.unusedVariables false

theorem laidOut : laidOutB Try.prog = true := by kernel_rfl
theorem own : ownKnob Try.prog.godebug = none := by kernel_rfl
theorem zero_right : Ins.zero.right = true := by decide +kernel
theorem zero_names : Ins.zero.names = false := by decide +kernel
theorem zero_goes : Ins.zero.goes = false := by decide +kernel
theorem nops_fit (n : Nat) (h : n ≤ 4096) : fitB (List.replicate n Ins.zero) = true := by
  rw [fit_iff]
  refine ⟨by simpa using h, fun k hk => ?_⟩
  rw [nops_get]
  unfold okB
  rw [zero_right, zero_names]
  rfl
theorem nops_hd (n k : Nat) : hdB (List.replicate n Ins.zero) k = decide (k = 0) := by
  rw [Bool.eq_iff_iff, hdB_iff, decide_eq_true_eq]
  constructor
  · rintro (h | ⟨_, h⟩ | ⟨j, _, h, _⟩)
    · exact h
    · rw [nops_get, zero_goes] at h; cases h
    · rw [nops_get, zero_names] at h; cases h
  · exact .inl
theorem nops_heads (n : Nat) : hdL (List.replicate (n + 1) Ins.zero) = [0] := by
  unfold hdL
  have e : hdB (List.replicate (n + 1) Ins.zero) = fun k => decide (k = 0) := funext (nops_hd (n + 1))
  rw [e, List.length_replicate, List.range_succ_eq_map, List.filter_cons]
  have : List.filter (fun k => decide (k = 0)) (List.map Nat.succ (List.range n)) = [] := by
    rw [List.filter_eq_nil_iff]
    intro a ha
    obtain ⟨b, _, rfl⟩ := List.mem_map.1 ha
    simp
  rw [this]
  rfl
theorem more_at (X : List Ins) (j : Nat) : (X ++ [Ins.zero]).getD j Ins.zero = X.getD j Ins.zero := by
  by_cases h : j < X.length
  · simp [List.getD, List.getElem?_append_left h]
  · rw [show X.getD j Ins.zero = Ins.zero by simp [List.getD, List.getElem?_eq_none (show X.length ≤ j by omega)]]
    by_cases e : j = X.length
    · subst e; simp [List.getD]
    · simp [List.getD, List.getElem?_eq_none (show (X ++ [Ins.zero]).length ≤ j by simp; omega)]
theorem more_fit {X : List Ins} (h : fitB X = true) (hl : X.length ≤ 200) : fitB (X ++ [Ins.zero]) = true := by
  rw [fit_iff]
  refine ⟨by simp; omega, fun k hk => ?_⟩
  rw [more_at]
  by_cases e : k < X.length
  · have := ((fit_iff X).1 h).2 k e
    unfold okB at this ⊢
    rw [Bool.and_eq_true, Bool.or_eq_true, decide_eq_true_eq] at this ⊢
    refine ⟨this.1, this.2.imp_right fun q => ?_⟩
    simp only [List.length_append, List.length_cons, List.length_nil]
    omega
  · rw [show X.getD k Ins.zero = Ins.zero by simp [List.getD, List.getElem?_eq_none (show X.length ≤ k by omega)]]
    unfold okB
    rw [zero_right, zero_names]
    rfl
theorem more_hd (X : List Ins) (n : Nat) : hdB (X ++ [Ins.zero]) n = hdB X n := by
  rw [Bool.eq_iff_iff, hdB_iff, hdB_iff]
  simp only [more_at]
  constructor
  · rintro (h | h | ⟨j, hj, h1, h2⟩)
    · exact .inl h
    · exact .inr (.inl h)
    · refine .inr (.inr ⟨j, ?_, h1, h2⟩)
      rcases Nat.lt_or_ge j X.length with q | q
      · exact q
      · rw [show X.getD j Ins.zero = Ins.zero by simp [List.getD, List.getElem?_eq_none q], zero_names] at h1
        cases h1
  · rintro (h | h | ⟨j, hj, h1, h2⟩)
    · exact .inl h
    · exact .inr (.inl h)
    · exact .inr (.inr ⟨j, by simp; omega, h1, h2⟩)
theorem more_heads (X : List Ins) : hdL (X ++ [Ins.zero]) = hdL X ++ (if hdB X X.length = true then [(X.length : Int)] else []) := by
  unfold hdL
  have e : hdB (X ++ [Ins.zero]) = hdB X := funext (more_hd X)
  rw [e, List.length_append, List.length_cons, List.length_nil, Nat.zero_add, List.range_succ, List.filter_append, List.map_append]
  congr 1
  split <;> simp_all
theorem end_at (H : List Int) (x : Int) : (H ++ [x]).getD H.length 0 = x := by simp [List.getD]
theorem end_lt (H : List Int) (x : Int) {j : Nat} (h : j < H.length) : (H ++ [x]).getD j 0 = H.getD j 0 := by simp [List.getD, List.getElem?_append_left h]

set_option maxRecDepth 20000 in
set_option maxHeartbeats 2000000 in
theorem walk (w : World) (y0 : Value) (X0 : List Ins) (wy0 : Code w y0 X0) (x1 : Int) (wx1 : (Lit.int .u8 x1).wf = true) :
    Calls Try.prog 6 #[y0, .int .u8 x1] w fun e w' => e = .returned (.bool true) ∧ Bel w w' := by
  have hv1 := wf_u8 wx1
  have HV := hidm wy0
  obtain ⟨ao, ca, rfl, hc0⟩ := wy0
  clear hc0
  obtain ⟨n, rfl⟩ : ∃ n : Nat, x1 = n := ⟨x1.toNat, by omega⟩
  by_cases hl : X0.length ≤ 200
  · have hmk := make_nops (n + 1) (by omega) (1 + (n : Int)) (by omega)
    have hnf := nops_fit (n + 1) (by omega)
    have hnh := nops_heads n
    have HC := fun W => nops_code W (n + 1) (n + 1)
    generalize hNN : List.replicate (n + 1) Ins.zero = NN at hnf hnh HC
    have lNN : NN.length ≤ 4096 := by rw [← hNN, List.length_replicate]; omega
    clear hNN
    cases hf : fitB X0 with
    | false =>
      go_enter Try.func6, Try.ntmps6
      go_wp2_with (first
        | (go_at_call 17; have q := b2; refine (heads_any XX _ _ (by omega) ((Hid.out own3).stay b2)).mono ?_; rintro e w4 ⟨u4, rfl, r4, b4⟩; clear r4; have x1' := ((bcell (btrans B13 (btrans b2 b4))).1 _ _ l1).trans x1)
        | (go_at_call 17; have q := B3; refine (heads_no X0 _ _ (by omega) (HV.out.stay B3) hf).mono ?_; rintro e w2 ⟨a2, c2', rfl, b2⟩)
        | (go_at_call 17; refine (heads_yes NN _ _ lNN (HC _) hnf).mono ?_; rw [hnh]; rintro e w1 ⟨a1, c1, rfl, r1, b1⟩; obtain ⟨g1, o1, rfl, l1, r1⟩ := r1 (by simp); have x1 : w1.cell? ⟨g1, o1, none⟩ = some (.int .i64 0) := r1 0 (by simp); have hz1 := b1.size; clear r1)
        | (at_builtin; refine append_code _ rfl (.tmp 23) (.tmp 25) rfl w1.heap.size _ X0 [⟨0, 0, 0, 0, 0⟩] rfl ((Hid.out own2).alloc _) ⟨g2, c2, rfl⟩ (some ⟨w5.heap.size, 0, none⟩) 1 rfl (code_at (code_lit (X := [⟨0, 0, 0, 0, 0⟩]) (heap_new w5 _) 1 1 rfl)) (by simp; omega) (by simp; omega) ?_; intro v3 w3 q1 q2 hg3; obtain ⟨g3, c3, rfl⟩ := q2; generalize hXX : X0 ++ [(⟨0, 0, 0, 0, 0⟩ : Ins)] = XX at q1  ⊢; have lXX : XX.length ≤ 201 := (by rw [← hXX, List.length_append]; simp; omega); clear hXX; have own3 := hidm (code_of_own q1 ⟨g3, c3, rfl⟩); have B13 : Bel w1 w3 := (B5.alloc _).grown hg3 (fun k hk => (by cases hk; exact hg5)); have B3 : Bel w w3 := btrans ((Bel.refl w).alloc _) (btrans b1 B13); clear q1 hg3)
        | (at_builtin; refine append_code _ rfl (.tmp 21) (.tmp 22) rfl w1.heap.size _ [] X0 rfl (own_none w1 24 5) ⟨_, _, rfl⟩ ao ca rfl (code_at (HV.out.stay (btrans ((Bel.refl w).alloc _) (b1.alloc _)))) (by simp; omega) (by simp) ?_; intro v2 w5 q1 q2 hg2; obtain ⟨g2, c2, rfl⟩ := q2; rw [List.nil_append] at q1; have own2 := hidm q1; have hg5 : w1.heap.size ≤ g2 := (q1.lt g2 rfl).1; have B5 : Bel w1 w5 := ((Bel.refl w1).alloc _).grown hg2 (fun k hk => (by cases hk; exact Nat.le_refl _)); have hz5 := B5.size; clear q1 hg2)
        | (go_at_call 13; have q := b6; refine (fit_any X0 _ _ (by omega) (HV.out.stay (btrans B3 (btrans (btrans b2 b4) b6)))).mono ?_; rw [hf]; rintro e w7 ⟨rfl, b7⟩)
        | (go_at_call 13; refine (fit_any X0 _ _ (by omega) (HV.out.stay (btrans B3 (btrans b2 b4)))).mono ?_; rw [hf]; rintro e w6 ⟨rfl, b6⟩)
        | (go_at_call 10; refine (awake_any _).mono ?_; rintro e w8 ⟨rfl, b8⟩))
      go_ret
      exact ⟨rfl, btrans (btrans B3 (btrans (btrans b2 b4) b6)) (btrans b7 b8)⟩
    | true =>
      have hfm : fitB (X0 ++ [(⟨0, 0, 0, 0, 0⟩ : Ins)]) = true := more_fit hf hl
      have hhm : hdL (X0 ++ [(⟨0, 0, 0, 0, 0⟩ : Ins)]) = hdL X0 ++ (if hdB X0 X0.length = true then [(X0.length : Int)] else []) := more_heads X0
      generalize hH : hdL X0 = H at hhm
      have HH := hidm hH
      clear hH
      have HM := hidm hhm
      clear hhm
      have HFM := hidm hfm
      clear hfm
      by_cases h0 : X0.length = 0
      · have e0' : ((X0.length : Int) == 0) = true := by simp [h0]
        generalize (if hdB X0 X0.length = true then [(X0.length : Int)] else []) = T at HM
        clear h0
        go_enter Try.func6, Try.ntmps6
        go_wp2_with (first
          | (go_at_call 17; have q := b2; refine (heads_yes XX _ _ (by omega) ((Hid.out own3).stay b2) HFM.out).mono ?_; rw [HM.out]; rintro e w4 ⟨a4, c4, rfl, r4, b4⟩; have R4 := hidm r4; clear r4; have x1' := ((bcell (btrans B13 (btrans b2 b4))).1 _ _ l1).trans x1)
          | (go_at_call 17; have q := B3; refine (heads_yes X0 _ _ (by omega) (HV.out.stay B3) hf).mono ?_; rw [HH.out]; rintro e w2 ⟨a2, c2', rfl, r2, b2⟩; have R2 := hidm r2; clear r2)
          | (go_at_call 17; refine (heads_yes NN _ _ lNN (HC _) hnf).mono ?_; rw [hnh]; rintro e w1 ⟨a1, c1, rfl, r1, b1⟩; obtain ⟨g1, o1, rfl, l1, r1⟩ := r1 (by simp); have x1 : w1.cell? ⟨g1, o1, none⟩ = some (.int .i64 0) := r1 0 (by simp); have hz1 := b1.size; clear r1)
          | (at_builtin; refine append_code _ rfl (.tmp 23) (.tmp 25) rfl w1.heap.size _ X0 [⟨0, 0, 0, 0, 0⟩] rfl ((Hid.out own2).alloc _) ⟨g2, c2, rfl⟩ (some ⟨w5.heap.size, 0, none⟩) 1 rfl (code_at (code_lit (X := [⟨0, 0, 0, 0, 0⟩]) (heap_new w5 _) 1 1 rfl)) (by simp; omega) (by simp; omega) ?_; intro v3 w3 q1 q2 hg3; obtain ⟨g3, c3, rfl⟩ := q2; generalize hXX : X0 ++ [(⟨0, 0, 0, 0, 0⟩ : Ins)] = XX at q1 HM HFM ⊢; have lXX : XX.length ≤ 201 := (by rw [← hXX, List.length_append]; simp; omega); clear hXX; have own3 := hidm (code_of_own q1 ⟨g3, c3, rfl⟩); have B13 : Bel w1 w3 := (B5.alloc _).grown hg3 (fun k hk => (by cases hk; exact hg5)); have B3 : Bel w w3 := btrans ((Bel.refl w).alloc _) (btrans b1 B13); clear q1 hg3)
          | (at_builtin; refine append_code _ rfl (.tmp 21) (.tmp 22) rfl w1.heap.size _ [] X0 rfl (own_none w1 24 5) ⟨_, _, rfl⟩ ao ca rfl (code_at (HV.out.stay (btrans ((Bel.refl w).alloc _) (b1.alloc _)))) (by simp; omega) (by simp) ?_; intro v2 w5 q1 q2 hg2; obtain ⟨g2, c2, rfl⟩ := q2; rw [List.nil_append] at q1; have own2 := hidm q1; have hg5 : w1.heap.size ≤ g2 := (q1.lt g2 rfl).1; have B5 : Bel w1 w5 := ((Bel.refl w1).alloc _).grown hg2 (fun k hk => (by cases hk; exact Nat.le_refl _)); have hz5 := B5.size; clear q1 hg2)
          | (go_at_call 13; have q := b7; refine (fit_any X0 _ _ (by omega) (HV.out.stay (btrans B3 (btrans (btrans b2 b4) (btrans b6 b7))))).mono ?_; rw [hf]; rintro e w9 ⟨rfl, b9⟩)
          | (go_at_call 13; have q := b6; refine (fit_any XX _ _ (by omega) ((Hid.out own3).stay (btrans (btrans b2 b4) b6))).mono ?_; rw [HFM.out]; rintro e w7 ⟨rfl, b7⟩)
          | (go_at_call 13; refine (fit_any X0 _ _ (by omega) (HV.out.stay (btrans B3 (btrans b2 b4)))).mono ?_; rw [hf]; rintro e w6 ⟨rfl, b6⟩)
          | (go_at_call 10; refine (awake_any _).mono ?_; rintro e w8 ⟨rfl, b8⟩))
        go_ret
        exact ⟨rfl, btrans (btrans B3 (btrans (btrans b2 b4) (btrans b6 b7))) (btrans b9 b8)⟩
      · have e0' : ((X0.length : Int) == 0) = false := beq_eq_false_iff_ne.2 (by omega)
        cases hh : hdB X0 X0.length with
        | false =>
          have HM2 := hidm (show hdL (X0 ++ [(⟨0, 0, 0, 0, 0⟩ : Ins)]) = H by rw [HM.out, hh]; simp)
          clear HM
          have HM := HM2
          clear HM2
          have hml : H.length ≤ 200 := by rw [← HH.out]; exact Nat.le_trans (hdL_len X0) hl
          have HP : 0 < H.length := by rw [← HH.out]; exact hdL_pos (by omega)
          clear hh h0
          go_enter Try.func6, Try.ntmps6
          go_wp2_with (first
            | (go_at_call 17; have q := b2; refine (heads_yes XX _ _ (by omega) ((Hid.out own3).stay b2) HFM.out).mono ?_; rw [HM.out]; rintro e w4 ⟨a4, c4, rfl, r4, b4⟩; obtain ⟨gb, ob, rfl, lb, rb⟩ := r4 HP; have RB := hidm rb; clear rb r4; have x1' := ((bcell (btrans B13 (btrans b2 b4))).1 _ _ l1).trans x1)
            | (go_at_call 17; have q := B3; refine (heads_yes X0 _ _ (by omega) (HV.out.stay B3) hf).mono ?_; rw [HH.out]; rintro e w2 ⟨a2, c2', rfl, r2, b2⟩; obtain ⟨ga, oa, rfl, la, ra⟩ := r2 HP; have RA := hidm ra; clear ra r2)
            | (go_at_call 17; refine (heads_yes NN _ _ lNN (HC _) hnf).mono ?_; rw [hnh]; rintro e w1 ⟨a1, c1, rfl, r1, b1⟩; obtain ⟨g1, o1, rfl, l1, r1⟩ := r1 (by simp); have x1 : w1.cell? ⟨g1, o1, none⟩ = some (.int .i64 0) := r1 0 (by simp); have hz1 := b1.size; clear r1)
            | (at_builtin; refine append_code _ rfl (.tmp 23) (.tmp 25) rfl w1.heap.size _ X0 [⟨0, 0, 0, 0, 0⟩] rfl ((Hid.out own2).alloc _) ⟨g2, c2, rfl⟩ (some ⟨w5.heap.size, 0, none⟩) 1 rfl (code_at (code_lit (X := [⟨0, 0, 0, 0, 0⟩]) (heap_new w5 _) 1 1 rfl)) (by simp; omega) (by simp; omega) ?_; intro v3 w3 q1 q2 hg3; obtain ⟨g3, c3, rfl⟩ := q2; generalize hXX : X0 ++ [(⟨0, 0, 0, 0, 0⟩ : Ins)] = XX at q1 HM HFM ⊢; have lXX : XX.length ≤ 201 := (by rw [← hXX, List.length_append]; simp; omega); clear hXX; have own3 := hidm (code_of_own q1 ⟨g3, c3, rfl⟩); have B13 : Bel w1 w3 := (B5.alloc _).grown hg3 (fun k hk => (by cases hk; exact hg5)); have B3 : Bel w w3 := btrans ((Bel.refl w).alloc _) (btrans b1 B13); clear q1 hg3)
            | (at_builtin; refine append_code _ rfl (.tmp 21) (.tmp 22) rfl w1.heap.size _ [] X0 rfl (own_none w1 24 5) ⟨_, _, rfl⟩ ao ca rfl (code_at (HV.out.stay (btrans ((Bel.refl w).alloc _) (b1.alloc _)))) (by simp; omega) (by simp) ?_; intro v2 w5 q1 q2 hg2; obtain ⟨g2, c2, rfl⟩ := q2; rw [List.nil_append] at q1; have own2 := hidm q1; have hg5 : w1.heap.size ≤ g2 := (q1.lt g2 rfl).1; have B5 : Bel w1 w5 := ((Bel.refl w1).alloc _).grown hg2 (fun k hk => (by cases hk; exact Nat.le_refl _)); have hz5 := B5.size; clear q1 hg2)
            | (go_at_call 13; have q := b7; refine (fit_any X0 _ _ (by omega) (HV.out.stay (btrans B3 (btrans (btrans b2 b4) (btrans b6 b7))))).mono ?_; rw [hf]; rintro e w9 ⟨rfl, b9⟩)
            | (go_at_call 13; have q := b6; refine (fit_any XX _ _ (by omega) ((Hid.out own3).stay (btrans (btrans b2 b4) b6))).mono ?_; rw [HFM.out]; rintro e w7 ⟨rfl, b7⟩)
            | (go_at_call 13; refine (fit_any X0 _ _ (by omega) (HV.out.stay (btrans B3 (btrans b2 b4)))).mono ?_; rw [hf]; rintro e w6 ⟨rfl, b6⟩)
            | (go_at_call 10; refine (awake_any _).mono ?_; rintro e w8 ⟨rfl, b8⟩))
          have B9b := btrans (btrans b6 b7) b9
          have B9a := btrans b4 B9b
          have B9 := btrans B3 (btrans b2 B9a)
          clear own2 own3 x1 x1'
          go_loopw [90] (fun i wr => ∃ k : Nat, k ≤ H.length ∧ i = .int .i64 k ∧ Bel w9 wr) (fun i _ => H.length - (intOf i).toNat)
          case atStart => exact ⟨0, Nat.zero_le _, rfl, Bel.refl _⟩
          case round =>
            obtain ⟨k, hk, rfl, hb⟩ := hrel
            rename World => wr
            by_cases hlt : k < H.length
            · have xa := RA.out k hlt
              have xb := RB.out k hlt
              rw [← (bcell (btrans B9a hb)).1 _ _ la] at xa
              rw [← (bcell (btrans B9b hb)).1 _ _ lb] at xb
              generalize H.getD k 0 = z at xa xb
              have q1 : (k : Int) < H.length := by omega
              have q2 : (k : Int) < (H.length : Int) + 1 := by omega
              clear RA RB
              go_wp2
              go_region
              all_goals go_wp2
              all_goals
                go_roundw
                case rel => exact ⟨k + 1, by omega, by go_num, hb.drew⟩
                case measure => simp [intOf]; omega
            · clear RA RB
              go_wp2_with (first
                | (go_at_call 10; refine (awake_any _).mono ?_; rintro e w8 ⟨rfl, b8⟩))
              go_ret
              exact ⟨rfl, btrans (btrans B9 hb) b8⟩
        | true =>
          have HM2 := hidm (show hdL (X0 ++ [(⟨0, 0, 0, 0, 0⟩ : Ins)]) = H ++ [(X0.length : Int)] by rw [HM.out, hh]; simp)
          clear HM
          have HM := HM2
          clear HM2
          have hml : H.length ≤ 200 := by rw [← HH.out]; exact Nat.le_trans (hdL_len X0) hl
          have HP : 0 < H.length := by rw [← HH.out]; exact hdL_pos (by omega)
          have p1 : ¬ (H.length : Int) + 1 < H.length := by omega
          have p2 : (H.length : Int) < (H.length : Int) + 1 := by omega
          clear hh h0
          go_enter Try.func6, Try.ntmps6
          go_wp2_with (first
            | (go_at_call 17; have q := b2; refine (heads_yes XX _ _ (by omega) ((Hid.out own3).stay b2) HFM.out).mono ?_; rw [HM.out]; rintro e w4 ⟨a4, c4, rfl, r4, b4⟩; obtain ⟨gb, ob, rfl, lb, rb⟩ := r4 (by simp); have y4 := rb H.length (by simp); rw [end_at] at y4; have RB : Hid (∀ j, j < H.length → w4.cell? ⟨gb, ob + j, none⟩ = some (.int .i64 (H.getD j 0))) := (fun j hj => (rb j (by simp; omega)).trans (by rw [end_lt _ _ hj])); clear rb r4; rw [List.length_append, List.length_singleton]; have x1' := ((bcell (btrans B13 (btrans b2 b4))).1 _ _ l1).trans x1)
            | (go_at_call 17; have q := B3; refine (heads_yes X0 _ _ (by omega) (HV.out.stay B3) hf).mono ?_; rw [HH.out]; rintro e w2 ⟨a2, c2', rfl, r2, b2⟩; obtain ⟨ga, oa, rfl, la, ra⟩ := r2 HP; have RA := hidm ra; clear ra r2)
            | (go_at_call 17; refine (heads_yes NN _ _ lNN (HC _) hnf).mono ?_; rw [hnh]; rintro e w1 ⟨a1, c1, rfl, r1, b1⟩; obtain ⟨g1, o1, rfl, l1, r1⟩ := r1 (by simp); have x1 : w1.cell? ⟨g1, o1, none⟩ = some (.int .i64 0) := r1 0 (by simp); have hz1 := b1.size; clear r1)
            | (at_builtin; refine append_code _ rfl (.tmp 23) (.tmp 25) rfl w1.heap.size _ X0 [⟨0, 0, 0, 0, 0⟩] rfl ((Hid.out own2).alloc _) ⟨g2, c2, rfl⟩ (some ⟨w5.heap.size, 0, none⟩) 1 rfl (code_at (code_lit (X := [⟨0, 0, 0, 0, 0⟩]) (heap_new w5 _) 1 1 rfl)) (by simp; omega) (by simp; omega) ?_; intro v3 w3 q1 q2 hg3; obtain ⟨g3, c3, rfl⟩ := q2; generalize hXX : X0 ++ [(⟨0, 0, 0, 0, 0⟩ : Ins)] = XX at q1 HM HFM ⊢; have lXX : XX.length ≤ 201 := (by rw [← hXX, List.length_append]; simp; omega); clear hXX; have own3 := hidm (code_of_own q1 ⟨g3, c3, rfl⟩); have B13 : Bel w1 w3 := (B5.alloc _).grown hg3 (fun k hk => (by cases hk; exact hg5)); have B3 : Bel w w3 := btrans ((Bel.refl w).alloc _) (btrans b1 B13); clear q1 hg3)
            | (at_builtin; refine append_code _ rfl (.tmp 21) (.tmp 22) rfl w1.heap.size _ [] X0 rfl (own_none w1 24 5) ⟨_, _, rfl⟩ ao ca rfl (code_at (HV.out.stay (btrans ((Bel.refl w).alloc _) (b1.alloc _)))) (by simp; omega) (by simp) ?_; intro v2 w5 q1 q2 hg2; obtain ⟨g2, c2, rfl⟩ := q2; rw [List.nil_append] at q1; have own2 := hidm q1; have hg5 : w1.heap.size ≤ g2 := (q1.lt g2 rfl).1; have B5 : Bel w1 w5 := ((Bel.refl w1).alloc _).grown hg2 (fun k hk => (by cases hk; exact Nat.le_refl _)); have hz5 := B5.size; clear q1 hg2)
            | (go_at_call 13; have q := b7; refine (fit_any X0 _ _ (by omega) (HV.out.stay (btrans B3 (btrans (btrans b2 b4) (btrans b6 b7))))).mono ?_; rw [hf]; rintro e w9 ⟨rfl, b9⟩; have y9 := ((bcell (btrans (btrans b6 b7) b9)).1 _ _ lb).trans y4; clear y4)
            | (go_at_call 13; have q := b6; refine (fit_any XX _ _ (by omega) ((Hid.out own3).stay (btrans (btrans b2 b4) b6))).mono ?_; rw [HFM.out]; rintro e w7 ⟨rfl, b7⟩)
            | (go_at_call 13; refine (fit_any X0 _ _ (by omega) (HV.out.stay (btrans B3 (btrans b2 b4)))).mono ?_; rw [hf]; rintro e w6 ⟨rfl, b6⟩)
            | (go_at_call 10; refine (awake_any _).mono ?_; rintro e w8 ⟨rfl, b8⟩))
          have B9b := btrans (btrans b6 b7) b9
          have B9a := btrans b4 B9b
          have B9 := btrans B3 (btrans b2 B9a)
          clear own2 own3 x1 x1'
          go_loopw [90] (fun i wr => ∃ k : Nat, k ≤ H.length ∧ i = .int .i64 k ∧ Bel w9 wr) (fun i _ => H.length - (intOf i).toNat)
          case atStart => exact ⟨0, Nat.zero_le _, rfl, Bel.refl _⟩
          case round =>
            obtain ⟨k, hk, rfl, hb⟩ := hrel
            rename World => wr
            by_cases hlt : k < H.length
            · have xa := RA.out k hlt
              have xb := RB.out k hlt
              rw [← (bcell (btrans B9a hb)).1 _ _ la] at xa
              rw [← (bcell (btrans B9b hb)).1 _ _ lb] at xb
              generalize H.getD k 0 = z at xa xb
              have q1 : (k : Int) < H.length := by omega
              have q2 : (k : Int) < (H.length : Int) + 1 := by omega
              clear RA RB
              go_wp2
              go_region
              all_goals go_wp2
              all_goals
                go_roundw
                case rel => exact ⟨k + 1, by omega, by go_num, hb.drew⟩
                case measure => simp [intOf]; omega
            · clear RA RB
              go_wp2_with (first
                | (go_at_call 10; refine (awake_any _).mono ?_; rintro e w8 ⟨rfl, b8⟩))
              go_ret
              exact ⟨rfl, btrans (btrans B9 hb) b8⟩
  · have hl' : 200 < X0.length := by omega
    clear hl
    go_enter Try.func6, Try.ntmps6
    go_wp2_with (first
      | (go_at_call 10; refine (awake_any _).mono ?_; rintro e w7 ⟨rfl, b7⟩))
    go_ret
    exact ⟨rfl, b7⟩

set_option maxRecDepth 100000 in
theorem lifted (os : Os) (started : os.Started) (H : Type) (enc : TypeId × Value → H) :
    ReturnsInHanded {} Try.checked os 6 .any (Rows.blockNopsSpec.pre6 enc Try.prog Try.f6 Rows.blockNopsRow.domain false) (Rows.blockNopsSpec.post enc Try.prog Try.f6 false true false false) := by
  refine returnsInHanded_of_change (C := Try.checked) own started (by kernel_rfl) Try.func6
    (ChangeSpec.witness6 (enc := enc) (C := Try.checked) false ⟨#[], #[.slice none 0 0, .int .u8 0], []⟩ 8 (by kernel_rfl) (by kernel_rfl) (by kernel_rfl) (by kernel_rfl)) ?_
  intro W base args ds gs before hval0 hW hcnd _
  have hval : ∀ (j : Nat) t v, Try.f6.params[j]? = some t → args[j]? = some v → Value.okWide Try.prog W .any base t v := hval0
  have hW' := hW
  obtain ⟨p, q, hA0, hV, rfl, hfz, hnd⟩ := hW
  have hA : DataW.TrodAll enc Try.prog W 0 (fun _ => true) true Try.f6.params.toList args.toList ds p := hA0
  rw [Try.params6] at hA hval
  obtain ⟨v0, vs0, d0, ds0, p0, q0, hargs, rfl, rfl, h0, r0⟩ := trodAll_cons hA
  obtain ⟨v1, vs1, d1, ds1, p1, q1, rfl, rfl, rfl, h1, r1⟩ := trodAll_cons r0
  obtain ⟨rfl, rfl, rfl⟩ := trodAll_nil r1
  obtain rfl : args = #[v0, v1] := by cases args; simp_all
  obtain ⟨rfl, rfl⟩ := trodVars_none hV
  have k0 := h0
  have lt0 : ∀ x ∈ p0, x.block < W.heap.size := by obtain ⟨m, hm⟩ := k0; exact DataW.trod_lt m _ _ _ hm
  obtain ⟨X0, wy0⟩ := open_code (hval 0 22 v0 rfl rfl) h0
  obtain ⟨x1, rfl, rfl, rfl, wx1⟩ := open_int Try.underlying5 (hval 1 5 v1 rfl rfl) h1
  clear hA0 hval0
  refine (walk W v0 X0 wy0 x1 wx1).mono fun e W' ⟨he, bel⟩ => ?_
  subst he
  exact ⟨_, rfl, _, _, _, [], _, [], hW', trodAll_mk1 (shut_bool Try.underlying4 _), (trodAll_cons_mk (Below.trod laidOut (by kernel_rfl) (of_decide_eq_true (by kernel_rfl)) k0 bel.out lt0) (trodAll_cons_mk (shut_int Try.underlying5 wx1) trodAll_mk0)), rfl, bel.out.frame _, fun h => by cases h⟩

theorem over : Rows.blockNopsRow.holds Try.pinned (OpenSpec.ofChange Rows.blockNopsSpec) :=
  OpenClaim.holds_of_wide 6 Try.f6 rfl rfl rfl rfl rfl rfl rfl ⟨rfl, rfl, rfl, rfl, rfl⟩ rfl rfl rfl rfl rfl (by kernel_rfl) Try.func6 (by kernel_rfl)
    (of_decide_eq_true (by kernel_rfl)) (by unfold Func.isWrapper; first | (rw [if_pos (by decide +kernel)]; kernel_rfl) | (rw [if_neg (by decide +kernel)]; exact ⟨rfl, rfl⟩))
    (fun os started H enc _ => lifted os started H enc)

theorem proved : Rows.BlockNopsSaid :=
  over
#print axioms proved
end Go.Proofs.Ytdhnlloohjehgaa.blockNops
