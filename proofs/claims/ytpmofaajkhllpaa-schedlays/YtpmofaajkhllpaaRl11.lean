/-
  The reference of layer 11: Lay.
-/
import Derived.Test.YtpmofaajkhllpaaRc11
import Derived.Test.YtpmofaajkhllpaaLw11
namespace Go.Proofs.Ytpmofaajkhllpaa
set_option maxRecDepth 20000
set_option linter.unusedVariables false
open Go.ChangeShapes Go.WideShapes Go.ChangeAt Go.RowKit

theorem ret_goesL (x : Ins) (w : World) : Calls Try.prog 18 #[.agg #[.int .i64 x.o, .int .i64 x.a, .int .i64 x.b, .int .i64 x.c, .int .i64 x.i]] w fun e w' => e = .returned (.bool x.goes) ∧ Bel w w' := refGoes_any x.o x.a x.b x.c x.i w
theorem ret_lateL (x : Ins) (w : World) : Calls Try.prog 19 #[.agg #[.int .i64 x.o, .int .i64 x.a, .int .i64 x.b, .int .i64 x.c, .int .i64 x.i]] w fun e w' => e = .returned (.bool x.late) ∧ Bel w w' := ret_late w
theorem layG_pad {X : List Ins} {Z : List Int} (h : ¬ (0 < Z.length ∧ fstN X Z ≤ Z.length - 1 ∧ (xAt X (lastI Z).toNat).late = false)) : layG X Z = padZ X Z ++ [((X.length - 1 : Nat) : Int), -1] := by
  unfold layG
  rw [if_neg h]
theorem layG_fill {X : List Ins} {Z : List Int} {E j : Nat} (hE : Z.length = E + 1) (hj : lastI Z = (j : Int)) (hf : fstN X Z ≤ E) (hl : (xAt X j).late = false) : layG X Z = Z.take E ++ [((X.length - 1 : Nat) : Int), (j : Int)] := by
  unfold layG
  rw [if_pos ⟨by omega, by omega, by rw [hj, Int.toNat_natCast]; exact hl⟩, hj, show Z.length - 1 = E by omega]

set_option maxHeartbeats 8000000 in
theorem refLay_any (X : List Ins) (v : Value) (w : World) (hX : X.length ≤ 1000) (hv : Code w v X) (hroom : ∀ ao n c, v = .slice ao n c → n ≤ c) :
    Calls Try.prog 16 #[v] w fun e W' => ∃ v' M, e = .returned v' ∧ LayS X M ∧ OwnI w.heap.size W' v' M ∧ Bel w W' := by
  have HV := hidm hv
  obtain ⟨ao, cap, rfl, hcd⟩ := hv
  by_cases h0 : X.length = 0
  · have hXe : X = [] := List.eq_nil_of_length_eq_zero h0
    subst hXe
    clear hcd
    go_enter Try.func16, Try.ntmps16
    go_wp2
    go_ret
    exact ⟨_, [], rfl, .inl ⟨rfl, rfl⟩, ownI_nil _ _, Bel.refl _⟩
  · obtain ⟨cb, co, rfl, hcb, hca⟩ := hcd (by omega)
    have h0' : 0 < X.length := by omega
    obtain ⟨L, hL⟩ : ∃ L : Nat, L = X.length - 1 := ⟨_, rfl⟩
    have nl : ((X.length : Int) - 1) = (L : Int) := by omega
    have hlb : ((X.length : Int) == 0) = false := beq_eq_false_iff_ne.2 (by omega)
    have hLl : (L : Int) < X.length := by omega
    obtain ⟨x0, x1, x2, x3, x4⟩ := hca L (by omega)
    rw [show X.getD L Ins.zero = xAt X L from rfl] at x0 x1 x2 x3 x4
    have hgo := fun ww => ret_goesL (xAt X L) ww
    have htk := code_take (n := L) (c := cap) hcb hca (by omega)
    have htl : (X.take L).length = L := by rw [List.length_take]; exact Nat.min_eq_left (by omega)
    have hord1 : ∀ ww, Bel w ww → Calls Try.prog 13 #[.slice (some ⟨cb, co, none⟩) L cap] ww _ := fun ww hb => refOrder_any (X.take L) _ ww (by omega) (code_bel htk hb)
    have hord2 : ∀ ww, Bel w ww → Calls Try.prog 13 #[.slice (some ⟨cb, co, none⟩) X.length cap] ww _ := fun ww hb => refOrder_any X _ ww hX (code_bel HV.out hb)
    have HL := hidm hL
    have hLc : (L : Int) ≤ cap := by have := hroom _ _ _ rfl; omega
    have HCA := hidm hca
    clear hcd hL hca hroom
    obtain ⟨i0, hi, hz0, hz1, hz2⟩ := info_parts intInfo
    -- what an order's last place holds, and what lies there
    have hend : ∀ (Z : List Int) (w2 : World) (ao2 : Option Addr) (cap2 : Nat), (0 < Z.length → ∃ j : Nat, lastI Z = j ∧ j < X.length) → 0 < Z.length → OwnI w.heap.size w2 (.slice ao2 Z.length cap2) Z → ∃ (E j bo : Nat), Hid (Z.length = E + 1) ∧ Hid (lastI Z = j) ∧ j < X.length ∧ ao2 = some ⟨bo, 0, none⟩ ∧ bo < w2.heap.size ∧ w2.cell? ⟨bo, E, none⟩ = some (.int .i64 j) := fun Z w2 ao2 cap2 hz h1 ho => by
      obtain ⟨j, hj, hjX⟩ := hz h1
      obtain ⟨E, hE⟩ := Nat.exists_eq_succ_of_ne_zero (Nat.ne_of_gt h1)
      obtain ⟨_, _, e5, hcz⟩ := own_ints ho
      cases e5
      obtain ⟨bo, oo, rfl, hbo, hcz⟩ := hcz h1
      have hoo : oo = 0 := by
        rcases ho.2 with ⟨q, _⟩ | ⟨_, _, _, q, _⟩
        · cases q
        · cases q; rfl
      subst hoo
      have c0 := hcz E (by omega)
      rw [Nat.zero_add] at c0
      refine ⟨E, j, bo, hE, hj, hjX, rfl, hbo, c0.trans ?_⟩
      rw [← hj]
      unfold lastI
      rw [hE, Nat.succ_sub_one]
      rfl
    cases hg : (xAt X L).goes with
    | false =>
      rw [hg] at hgo
      clear hord1 htk htl
      go_enter Try.func16, Try.ntmps16
      have hla := fun j ww => ret_lateL (xAt X j) ww
      go_wp2_with (first
        | (have q := b3; at_builtin; refine wpList_append_lies _ rfl (.tmp 39) (.tmp 40) 25 rfl w.heap.size 3 i0 _ 1 8 Try.underlying25 hi hz0 hz1 hz2 rfl (by decide) _ _ _ rfl (HO3.out.alloc _) ⟨w3.heap.size, 0, none⟩ 1 1 [.int .i64 (-1)] rfl rfl (cell_one_new _ _ _) (by intro u hu; simp at hu; subst hu; rfl) (by omega) (by unfold maxLen; omega) (by omega) (by have := b3.size; simp; omega) (w3.heap.size + 1) (by simp) ?_; intro gg cap1 w4 hown1 hgrow hat hlt1)
        | (have q := b2; go_at_call 19; refine (hla j _).mono ?_; rintro e w3 ⟨rfl, b3⟩; have HO3 := hidm (ownI_kept HOO.out (Kept.of_bel (S := fun _ _ => False) b3) (fun _ _ _ _ s => s)))
        | (have q := b1; go_at_call 13; refine (hord2 w1 b1).mono ?_; rintro e w2 ⟨v2, Z, rfl, hO2, o2', b2'⟩; have b2 := btrans b1 b2'; have o2 := ownI_low o2' b1.size; obtain ⟨ao2, cap2, q⟩ := ownI_form o2; subst q; obtain ⟨E, j, bo, HE, HJ, hjX, q7, hbo, c0⟩ := hend Z w2 ao2 cap2 (fun q => ord_last hO2 q) (ord_pos hO2 h0') o2; subst q7; obtain ⟨y0, y1, y2, y3, y4⟩ := (HCA.out.stay hcb b2) j hjX; rw [show X.getD j Ins.zero = xAt X j from rfl] at y0 y1 y2 y3 y4; have hEI : (Z.length : Int) - 1 = (E : Int) := (by have := HE.out; omega); have hEl : (E : Int) < Z.length := (by omega); have hjl : (j : Int) < X.length := (by omega); have hzl := ord_len hO2; have HO2 := hidm hO2; have HOO := hidm o2; have hs2 := b2.size; clear hO2 o2 o2')
        | (go_at_call 18; refine (hgo _).mono ?_; rintro e w1 ⟨rfl, b1⟩))
      · go_ret
        refine ⟨_, Z ++ [-1], rfl, .inr (.inr ⟨h0', by rw [← HL.out]; exact hg, Z, HO2.out, ?_⟩), ?_, ((btrans b2 b3).alloc _).grown hgrow (fun k e => (ownI_block HO3.out k e).1)⟩
        · rw [HJ.out, Int.toNat_natCast]
          simp [*]
        · unfold OwnI
          rw [List.length_append, List.map_append]
          exact hown1
      · go_ret
        refine ⟨_, Z, rfl, .inr (.inr ⟨h0', by rw [← HL.out]; exact hg, Z, HO2.out, ?_⟩), ownI_kept HOO.out (Kept.of_bel (S := fun _ _ => False) b3) (fun _ _ _ _ s => s), btrans b2 b3⟩
        rw [HJ.out, Int.toNat_natCast]
        simp [*]
    | true =>
      rw [hg] at hgo
      have HG := hidm hg
      clear hord2 hg
      go_enter Try.func16, Try.ntmps16
      go_wp2_with (first
        | (have q := b1; go_at_call 13; refine (hord1 w1 b1).mono ?_; rintro e w2 ⟨v2, Z, rfl, hO2, o2', b2'⟩; have b2 := btrans b1 b2'; have o2 := ownI_low o2' b1.size; obtain ⟨ao2, cap2, q⟩ := ownI_form o2; subst q; have hzl := ord_len hO2; have HO2 := hidm hO2; have HOO := hidm o2; have hs2 := b2.size; have hcb2 : cb < w2.heap.size := (by omega); clear hO2 o2 o2'; refine Hid.out ?_)
        | (go_at_call 18; refine (hgo _).mono ?_; rintro e w1 ⟨rfl, b1⟩))
      refine hidm ?_
      have hpl : ∀ i, i < Z.length → Z.getD i 0 = -1 ∨ ∃ j : Nat, Z.getD i 0 = j ∧ j < X.length := fun i hi => (ord_places HO2.out i hi).imp id (fun ⟨j, q1, q2⟩ => ⟨j, q1, by omega⟩)
      have hls : 0 < Z.length → ∃ j : Nat, lastI Z = j ∧ j < X.length := fun q => by obtain ⟨j, q1, q2⟩ := ord_last HO2.out q; exact ⟨j, q1, by omega⟩
      have HPL := hidm hpl
      have hzx : Z.length ≤ 2 * L := by rw [htl] at hzl; exact hzl
      clear hzl
      have hLay : ∀ M, layG X Z = M → LayS X M := fun M e => .inr (.inl ⟨h0', by rw [← HL.out]; exact HG.out, Z, by rw [← HL.out]; exact HO2.out, e.symm⟩)
      have HLAY := hidm hLay
      have hcode2 := (HCA.out.stay hcb b2)
      have D := hcode2 L (by have := HL.out; omega)
      rw [show X.getD L Ins.zero = xAt X L from rfl] at D
      obtain ⟨d0, d1, d2, d3, d4⟩ := D
      have D0 := later_cell d0 hcb2
      have D1 := later_cell d1 hcb2
      have D2 := later_cell d2 hcb2
      have D3 := later_cell d3 hcb2
      have D4 := later_cell d4 hcb2
      clear hpl hLay d0 d1 d2 d3 d4 hord1 hgo htk htl x0 x1 x2 x3 x4 b2' b1
      have tail : ∀ p : Nat, Z.length + p ≤ max Z.length (fstN X Z) → fstN X Z ≤ Z.length + p → layG X Z = padZ X Z ++ [((X.length - 1 : Nat) : Int), -1] → layG X Z = (Z ++ List.replicate p (-1)) ++ [(L : Int), -1] := fun p h1 h2 e => by
        rw [e, ← HL.out]
        unfold padZ
        rw [show fstN X Z - Z.length = p by omega]
      have HT := hidm tail
      have hpc := fun p => pad_clear HPL.out p
      rw [← HL.out] at hpc
      have HPC := hidm hpc
      clear tail hpc
      have hla := fun j ww => ret_lateL (xAt X j) ww
      haveI := Later.ne w2
      obtain ⟨u1, eu⟩ := later_start w2
      by_cases hZ : 0 < Z.length
      · obtain ⟨E, j, bo, HE, HJ, hjX, q7, hbo, c0⟩ := hend Z w2 ao2 cap2 hls hZ HOO.out
        subst q7
        obtain ⟨a0, a1, a2, a3, a4⟩ := hcode2 j hjX
        rw [show X.getD j Ins.zero = xAt X j from rfl] at a0 a1 a2 a3 a4
        have A0 := later_cell a0 hcb2
        have A1 := later_cell a1 hcb2
        have A2 := later_cell a2 hcb2
        have A3 := later_cell a3 hcb2
        have A4 := later_cell a4 hcb2
        have C0 := later_cell c0 hbo
        have hEI : (Z.length : Int) - 1 = (E : Int) := by have := HE.out; omega
        have hEl : (E : Int) < Z.length := by omega
        have hEl2 : (E : Int) ≤ Z.length := by omega
        have hjl : (j : Int) < X.length := by omega
        have hfar := fun ww => refFar_any (xAt X j) (xAt X L) ww
        unfold Ins.val at hfar
        have hfb := farI_bd (xAt X j) (xAt X L)
        have HTK := hidm (own_take HOO.out rfl (k := E) (by have := HE.out; omega))
        have hEk : (Z.take E).length = E := by have := HE.out; rw [List.length_take]; omega
        have hEc : E ≤ cap2 := by
          have := HE.out
          rcases HOO.out.2 with ⟨q, _⟩ | ⟨_, _, _, q, _, _, q2, _⟩
          · cases q
          · cases q; omega
        have hEcI : (E : Int) ≤ cap2 := by omega
        have hcl := fun (q : Later w2) => refClear_any X (Z.take E) (xAt X L) E (.slice (some ⟨cb, co, none⟩) X.length cap) (.slice (some ⟨bo, 0, none⟩) E cap2) q.at_ hX (by omega) (by omega) (by omega) (fun i hi => by rw [show (Z.take E).getD i 0 = Z.getD i 0 by simp [List.getD, show i < E by omega]]; exact HPL.out i (by omega)) (code_bel HV.out (btrans b2 q.is_)) ((own_ints HTK.out).bel q.is_)
        have hla := hla j
        have hfc := fst_clear HPL.out HE.out HJ.out
        rw [← HL.out] at hfc
        have HGP := hidm (fun (h : ¬ (fstN X Z ≤ E ∧ (xAt X j).late = false)) => layG_pad (X := X) (Z := Z) (fun q => h ⟨by have := HE.out; omega, by have := q.2.2; rwa [HJ.out, Int.toNat_natCast] at this⟩))
        have HGF := hidm (fun h1 h2 => layG_fill (X := X) HE.out HJ.out h1 h2)
        clear hls hcode2 a0 a1 a2 a3 a4 hEk hend
        generalize (xAt X j).late = lb at hla HGP HGF
        generalize farI (xAt X j) (xAt X L) = d at hfar hfb hfc
        generalize clearB X (xAt X L) (Z.take E) E = cl at hcl hfc
        have four : (lb = true ∧ Hid (layG X Z = padZ X Z ++ [((X.length - 1 : Nat) : Int), -1])) ∨ (lb = false ∧ (d == 0) = false ∧ Hid (layG X Z = padZ X Z ++ [((X.length - 1 : Nat) : Int), -1])) ∨ (lb = false ∧ d = 0 ∧ cl = false ∧ Hid (layG X Z = padZ X Z ++ [((X.length - 1 : Nat) : Int), -1])) ∨ (lb = false ∧ d = 0 ∧ cl = true ∧ Hid (layG X Z = Z.take E ++ [(L : Int), (j : Int)])) := by
          cases lb with
          | true => exact .inl ⟨rfl, HGP.out (fun q => by cases q.2)⟩
          | false =>
            by_cases hd : d = 0
            · cases cl with
              | false => exact .inr (.inr (.inl ⟨rfl, hd, rfl, HGP.out (fun q => by cases (hfc.1 q.1).2)⟩))
              | true => exact .inr (.inr (.inr ⟨rfl, hd, rfl, by rw [HL.out]; exact HGF.out (hfc.2 ⟨hd, rfl⟩) rfl⟩))
            · exact .inr (.inl ⟨rfl, beq_eq_false_iff_ne.2 hd, HGP.out (fun q => hd (hfc.1 q.1).1)⟩)
        clear hfc HGP HGF hZ
        rcases four with ⟨rfl, HGG⟩ | ⟨rfl, hd, HGG⟩ | ⟨rfl, rfl, rfl, HGG⟩ | ⟨rfl, rfl, rfl, HGG⟩
        · rw [← eu]
          clear eu
          go_wp2
          refine wp_region_later (by kernel_rfl) (by kernel_rfl) ?_
          repeat (go_big_quiet_step (first | (go_at_call 19; exact later_of (hla _))))
          refine wpQuiet_nil ?_
          rintro _ ⟨q2, rfl⟩
          have HO0 := hidm (ownI_kept HOO.out (Kept.of_bel (S := fun _ _ => False) q2.is_) (fun _ _ _ _ s => s))
          have hb2 := btrans b2 q2.is_
          clear D0 D1 D2 D3 D4
          generalize q2.at_ = w3 at HO0 hb2 ⊢
          go_wp2
          go_loopw [6] (fun o wr => ∃ p : Nat, Z.length + p ≤ max Z.length (fstN X Z) ∧ OwnI w.heap.size wr o (Z ++ List.replicate p (-1)) ∧ Bel w wr) (fun o _ => fstN X Z - lenOf o)
          case atStart => exact ⟨0, by omega, by simpa using HO0.out, hb2⟩
          case round =>
            obtain ⟨p, hp, hO, hB⟩ := hrel
            rename World => wr
            obtain ⟨ao3, cap3, q⟩ := ownI_form hO
            subst q
            have hlen : (Z ++ List.replicate p (-1 : Int)).length = Z.length + p := by simp
            have hfle := fstN_le X Z
            have hcl2 := refClear_any X (Z ++ List.replicate p (-1)) (xAt X L) ((Z.length + p : Nat) : Int) (.slice (some ⟨cb, co, none⟩) X.length cap) (.slice ao3 (Z ++ List.replicate p (-1 : Int)).length cap3) wr hX (by omega) (by omega) (by omega) (pad_in HPL.out p) (code_bel HV.out hB) (own_ints hO)
            rw [HPC.out p, hlen] at hcl2
            rw [hlen] at hO ⊢
            have HOr := hidm hO
            obtain ⟨d0, d1, d2, d3, d4⟩ := (HCA.out.stay hcb hB) L (by have := HL.out; omega)
            rw [show X.getD L Ins.zero = xAt X L from rfl] at d0 d1 d2 d3 d4
            have hcbr : cb < wr.heap.size := Nat.lt_of_lt_of_le hcb hB.size
            have hsr := hB.size
            clear hO
            by_cases hf : fstN X Z ≤ Z.length + p
            · have HM := hidm (HT.out p hp hf HGG.out)
              rw [decide_eq_true hf] at hcl2
              go_wp2_with (first
                | (have q := t1; at_builtin; refine wpList_append_lies _ rfl (.tmp 116) (.tmp 118) 25 rfl w.heap.size 3 i0 _ 1 8 Try.underlying25 hi hz0 hz1 hz2 rfl (by decide) _ _ _ rfl (HO4.out.alloc _) ⟨w4.heap.size, 0, none⟩ 2 2 [.int .i64 L, .int .i64 (-1)] rfl rfl (World.news_of_block (cs := #[.int .i64 L, .int .i64 (-1)]) (t := 3) (fr := (0, 0)) (heap_alloc_new w4 _)) (by simp [Value.oneCell']) (by omega) (by unfold maxLen; omega) (by omega) (by simp; omega) (w4.heap.size + 1) (by simp) ?_; intro gg cap1 w5 hown1 hgrow hat hlt1)
                | (go_at_call 28; refine hcl2.mono ?_; rintro e w4 ⟨rfl, b4⟩; have HO4 := hidm (ownI_kept HOr.out (Kept.of_bel (S := fun _ _ => False) b4) (fun _ _ _ _ s => s)); have hs4 := b4.size; have t1 : Hid True := True.intro))
              go_ret
              refine ⟨_, _, rfl, HLAY.out _ HM.out, ?_, ((btrans hB b4).alloc _).grown hgrow (fun k e => (ownI_block HO4.out k e).1)⟩
              unfold OwnI
              rw [List.length_append, List.map_append]
              rw [hlen] at hown1 ⊢
              exact hown1
            · rw [decide_eq_false hf] at hcl2
              go_wp2_with (first
                | (have q := t1; at_builtin; refine wpList_append_lies _ rfl (.tmp 113) (.tmp 114) 25 rfl w.heap.size 3 i0 _ 1 8 Try.underlying25 hi hz0 hz1 hz2 rfl (by decide) _ _ _ rfl (HO4.out.alloc _) ⟨w4.heap.size, 0, none⟩ 1 1 [.int .i64 (-1)] rfl rfl (cell_one_new _ _ _) (by intro u hu; simp at hu; subst hu; rfl) (by omega) (by unfold maxLen; omega) (by omega) (by simp; omega) (w4.heap.size + 1) (by simp) ?_; intro gg cap1 w5 hown1 hgrow hat hlt1)
                | (go_at_call 28; refine hcl2.mono ?_; rintro e w4 ⟨rfl, b4⟩; have HO4 := hidm (ownI_kept HOr.out (Kept.of_bel (S := fun _ _ => False) b4) (fun _ _ _ _ s => s)); have hs4 := b4.size; have t1 : Hid True := True.intro))
              have e1 : Z ++ List.replicate (p + 1) (-1 : Int) = (Z ++ List.replicate p (-1)) ++ [-1] := by rw [List.replicate_succ', List.append_assoc]
              go_roundw
              case rel => exact ⟨p + 1, by omega, by
                  rw [e1]
                  unfold OwnI
                  rw [List.length_append, List.map_append]
                  rw [hlen] at hown1 ⊢
                  exact hown1, ((btrans hB b4).alloc _).grown hgrow (fun k e => (ownI_block HO4.out k e).1)⟩
              case measure => simp only [lenOf]; omega
        · rw [← eu]
          clear eu
          go_wp2
          refine wp_region_later (by kernel_rfl) (by kernel_rfl) ?_
          repeat (go_big_quiet_step (first | (go_at_call 19; exact later_of (hla _)) | (go_at_call 20; exact later_of (hfar _))))
          refine wpQuiet_nil ?_
          rintro _ ⟨q2, rfl⟩
          have HO0 := hidm (ownI_kept HOO.out (Kept.of_bel (S := fun _ _ => False) q2.is_) (fun _ _ _ _ s => s))
          have hb2 := btrans b2 q2.is_
          clear D0 D1 D2 D3 D4
          generalize q2.at_ = w3 at HO0 hb2 ⊢
          go_wp2
          go_loopw [6] (fun o wr => ∃ p : Nat, Z.length + p ≤ max Z.length (fstN X Z) ∧ OwnI w.heap.size wr o (Z ++ List.replicate p (-1)) ∧ Bel w wr) (fun o _ => fstN X Z - lenOf o)
          case atStart => exact ⟨0, by omega, by simpa using HO0.out, hb2⟩
          case round =>
            obtain ⟨p, hp, hO, hB⟩ := hrel
            rename World => wr
            obtain ⟨ao3, cap3, q⟩ := ownI_form hO
            subst q
            have hlen : (Z ++ List.replicate p (-1 : Int)).length = Z.length + p := by simp
            have hfle := fstN_le X Z
            have hcl2 := refClear_any X (Z ++ List.replicate p (-1)) (xAt X L) ((Z.length + p : Nat) : Int) (.slice (some ⟨cb, co, none⟩) X.length cap) (.slice ao3 (Z ++ List.replicate p (-1 : Int)).length cap3) wr hX (by omega) (by omega) (by omega) (pad_in HPL.out p) (code_bel HV.out hB) (own_ints hO)
            rw [HPC.out p, hlen] at hcl2
            rw [hlen] at hO ⊢
            have HOr := hidm hO
            obtain ⟨d0, d1, d2, d3, d4⟩ := (HCA.out.stay hcb hB) L (by have := HL.out; omega)
            rw [show X.getD L Ins.zero = xAt X L from rfl] at d0 d1 d2 d3 d4
            have hcbr : cb < wr.heap.size := Nat.lt_of_lt_of_le hcb hB.size
            have hsr := hB.size
            clear hO
            by_cases hf : fstN X Z ≤ Z.length + p
            · have HM := hidm (HT.out p hp hf HGG.out)
              rw [decide_eq_true hf] at hcl2
              go_wp2_with (first
                | (have q := t1; at_builtin; refine wpList_append_lies _ rfl (.tmp 116) (.tmp 118) 25 rfl w.heap.size 3 i0 _ 1 8 Try.underlying25 hi hz0 hz1 hz2 rfl (by decide) _ _ _ rfl (HO4.out.alloc _) ⟨w4.heap.size, 0, none⟩ 2 2 [.int .i64 L, .int .i64 (-1)] rfl rfl (World.news_of_block (cs := #[.int .i64 L, .int .i64 (-1)]) (t := 3) (fr := (0, 0)) (heap_alloc_new w4 _)) (by simp [Value.oneCell']) (by omega) (by unfold maxLen; omega) (by omega) (by simp; omega) (w4.heap.size + 1) (by simp) ?_; intro gg cap1 w5 hown1 hgrow hat hlt1)
                | (go_at_call 28; refine hcl2.mono ?_; rintro e w4 ⟨rfl, b4⟩; have HO4 := hidm (ownI_kept HOr.out (Kept.of_bel (S := fun _ _ => False) b4) (fun _ _ _ _ s => s)); have hs4 := b4.size; have t1 : Hid True := True.intro))
              go_ret
              refine ⟨_, _, rfl, HLAY.out _ HM.out, ?_, ((btrans hB b4).alloc _).grown hgrow (fun k e => (ownI_block HO4.out k e).1)⟩
              unfold OwnI
              rw [List.length_append, List.map_append]
              rw [hlen] at hown1 ⊢
              exact hown1
            · rw [decide_eq_false hf] at hcl2
              go_wp2_with (first
                | (have q := t1; at_builtin; refine wpList_append_lies _ rfl (.tmp 113) (.tmp 114) 25 rfl w.heap.size 3 i0 _ 1 8 Try.underlying25 hi hz0 hz1 hz2 rfl (by decide) _ _ _ rfl (HO4.out.alloc _) ⟨w4.heap.size, 0, none⟩ 1 1 [.int .i64 (-1)] rfl rfl (cell_one_new _ _ _) (by intro u hu; simp at hu; subst hu; rfl) (by omega) (by unfold maxLen; omega) (by omega) (by simp; omega) (w4.heap.size + 1) (by simp) ?_; intro gg cap1 w5 hown1 hgrow hat hlt1)
                | (go_at_call 28; refine hcl2.mono ?_; rintro e w4 ⟨rfl, b4⟩; have HO4 := hidm (ownI_kept HOr.out (Kept.of_bel (S := fun _ _ => False) b4) (fun _ _ _ _ s => s)); have hs4 := b4.size; have t1 : Hid True := True.intro))
              have e1 : Z ++ List.replicate (p + 1) (-1 : Int) = (Z ++ List.replicate p (-1)) ++ [-1] := by rw [List.replicate_succ', List.append_assoc]
              go_roundw
              case rel => exact ⟨p + 1, by omega, by
                  rw [e1]
                  unfold OwnI
                  rw [List.length_append, List.map_append]
                  rw [hlen] at hown1 ⊢
                  exact hown1, ((btrans hB b4).alloc _).grown hgrow (fun k e => (ownI_block HO4.out k e).1)⟩
              case measure => simp only [lenOf]; omega
        · rw [← eu]
          clear eu
          go_wp2
          refine wp_region_later (by kernel_rfl) (by kernel_rfl) ?_
          repeat (go_big_quiet_step (first | (go_at_call 19; exact later_of (hla _)) | (go_at_call 20; exact later_of (hfar _)) | (go_at_call 28; exact later_of (hcl _))))
          refine wpQuiet_nil ?_
          rintro _ ⟨q2, rfl⟩
          have HO0 := hidm (ownI_kept HOO.out (Kept.of_bel (S := fun _ _ => False) q2.is_) (fun _ _ _ _ s => s))
          have hb2 := btrans b2 q2.is_
          clear D0 D1 D2 D3 D4
          generalize q2.at_ = w3 at HO0 hb2 ⊢
          go_wp2
          go_loopw [6] (fun o wr => ∃ p : Nat, Z.length + p ≤ max Z.length (fstN X Z) ∧ OwnI w.heap.size wr o (Z ++ List.replicate p (-1)) ∧ Bel w wr) (fun o _ => fstN X Z - lenOf o)
          case atStart => exact ⟨0, by omega, by simpa using HO0.out, hb2⟩
          case round =>
            obtain ⟨p, hp, hO, hB⟩ := hrel
            rename World => wr
            obtain ⟨ao3, cap3, q⟩ := ownI_form hO
            subst q
            have hlen : (Z ++ List.replicate p (-1 : Int)).length = Z.length + p := by simp
            have hfle := fstN_le X Z
            have hcl2 := refClear_any X (Z ++ List.replicate p (-1)) (xAt X L) ((Z.length + p : Nat) : Int) (.slice (some ⟨cb, co, none⟩) X.length cap) (.slice ao3 (Z ++ List.replicate p (-1 : Int)).length cap3) wr hX (by omega) (by omega) (by omega) (pad_in HPL.out p) (code_bel HV.out hB) (own_ints hO)
            rw [HPC.out p, hlen] at hcl2
            rw [hlen] at hO ⊢
            have HOr := hidm hO
            obtain ⟨d0, d1, d2, d3, d4⟩ := (HCA.out.stay hcb hB) L (by have := HL.out; omega)
            rw [show X.getD L Ins.zero = xAt X L from rfl] at d0 d1 d2 d3 d4
            have hcbr : cb < wr.heap.size := Nat.lt_of_lt_of_le hcb hB.size
            have hsr := hB.size
            clear hO
            by_cases hf : fstN X Z ≤ Z.length + p
            · have HM := hidm (HT.out p hp hf HGG.out)
              rw [decide_eq_true hf] at hcl2
              go_wp2_with (first
                | (have q := t1; at_builtin; refine wpList_append_lies _ rfl (.tmp 116) (.tmp 118) 25 rfl w.heap.size 3 i0 _ 1 8 Try.underlying25 hi hz0 hz1 hz2 rfl (by decide) _ _ _ rfl (HO4.out.alloc _) ⟨w4.heap.size, 0, none⟩ 2 2 [.int .i64 L, .int .i64 (-1)] rfl rfl (World.news_of_block (cs := #[.int .i64 L, .int .i64 (-1)]) (t := 3) (fr := (0, 0)) (heap_alloc_new w4 _)) (by simp [Value.oneCell']) (by omega) (by unfold maxLen; omega) (by omega) (by simp; omega) (w4.heap.size + 1) (by simp) ?_; intro gg cap1 w5 hown1 hgrow hat hlt1)
                | (go_at_call 28; refine hcl2.mono ?_; rintro e w4 ⟨rfl, b4⟩; have HO4 := hidm (ownI_kept HOr.out (Kept.of_bel (S := fun _ _ => False) b4) (fun _ _ _ _ s => s)); have hs4 := b4.size; have t1 : Hid True := True.intro))
              go_ret
              refine ⟨_, _, rfl, HLAY.out _ HM.out, ?_, ((btrans hB b4).alloc _).grown hgrow (fun k e => (ownI_block HO4.out k e).1)⟩
              unfold OwnI
              rw [List.length_append, List.map_append]
              rw [hlen] at hown1 ⊢
              exact hown1
            · rw [decide_eq_false hf] at hcl2
              go_wp2_with (first
                | (have q := t1; at_builtin; refine wpList_append_lies _ rfl (.tmp 113) (.tmp 114) 25 rfl w.heap.size 3 i0 _ 1 8 Try.underlying25 hi hz0 hz1 hz2 rfl (by decide) _ _ _ rfl (HO4.out.alloc _) ⟨w4.heap.size, 0, none⟩ 1 1 [.int .i64 (-1)] rfl rfl (cell_one_new _ _ _) (by intro u hu; simp at hu; subst hu; rfl) (by omega) (by unfold maxLen; omega) (by omega) (by simp; omega) (w4.heap.size + 1) (by simp) ?_; intro gg cap1 w5 hown1 hgrow hat hlt1)
                | (go_at_call 28; refine hcl2.mono ?_; rintro e w4 ⟨rfl, b4⟩; have HO4 := hidm (ownI_kept HOr.out (Kept.of_bel (S := fun _ _ => False) b4) (fun _ _ _ _ s => s)); have hs4 := b4.size; have t1 : Hid True := True.intro))
              have e1 : Z ++ List.replicate (p + 1) (-1 : Int) = (Z ++ List.replicate p (-1)) ++ [-1] := by rw [List.replicate_succ', List.append_assoc]
              go_roundw
              case rel => exact ⟨p + 1, by omega, by
                  rw [e1]
                  unfold OwnI
                  rw [List.length_append, List.map_append]
                  rw [hlen] at hown1 ⊢
                  exact hown1, ((btrans hB b4).alloc _).grown hgrow (fun k e => (ownI_block HO4.out k e).1)⟩
              case measure => simp only [lenOf]; omega
        · rw [← eu]
          clear eu
          go_wp2
          refine wp_region_later (by kernel_rfl) (by kernel_rfl) ?_
          repeat (go_big_quiet_step (first | (go_at_call 19; exact later_of (hla _)) | (go_at_call 20; exact later_of (hfar _)) | (go_at_call 28; exact later_of (hcl _))))
          refine wpQuiet_nil ?_
          rintro _ ⟨q2, rfl⟩
          have HT2 := hidm (ownI_kept HTK.out (Kept.of_bel (S := fun _ _ => False) q2.is_) (fun _ _ _ _ s => s))
          have c2 := C0 q2
          have hb2 := btrans b2 q2.is_
          have hbo2 : bo < q2.at_.heap.size := Nat.lt_of_lt_of_le hbo q2.is_.size
          clear hcl hfar hla A0 A1 A2 A3 A4 C0 D0 D1 D2 D3 D4 HTK
          generalize q2.at_ = w3 at HT2 c2 hb2 hbo2 ⊢
          have hs3 := hb2.size
          have hEk : (Z.take E).length = E := by have := HE.out; rw [List.length_take]; omega
          go_wp2_with (first
            | (have q := t1; at_builtin; refine wpList_append_lies _ ?_ (.tmp 98) (.tmp 101) 25 ?_ w.heap.size 3 i0 _ 1 8 Try.underlying25 hi hz0 hz1 hz2 rfl (by decide) (.slice ao4 E cap4) E ((Z.take E).map (Value.int .i64)) ?_ (OWN4.out.alloc _) ⟨w4.heap.size, 0, none⟩ 2 2 [.int .i64 L, .int .i64 j] ?_ rfl (World.news_of_block (cs := #[.int .i64 L, .int .i64 j]) (t := 3) (fr := (0, 0)) (heap_alloc_new w4 _)) (by simp [Value.oneCell']) (by omega) (by unfold maxLen; omega) (by omega) (by simp; omega) (w4.heap.size + 1) (by simp) ?_; rfl; rfl; rfl; rfl; intro gg cap1 w5 hown1 hgrow hat hlt1)
            | (at_builtin; refine wpList_append_row w3 ?_ (.tmp 94) (.tmp 97) ?_ w.heap.size w.heap.size (.slice none 0 0) (.slice (some ⟨bo, 0, none⟩) E cap2) [] (Z.take E) ?_ ?_ ?_ ?_ ?_ ?_ ?_; rfl; rfl; rfl; rfl; exact ownI_nil _ _; exact HT2.out; (simp only [List.length_nil]; omega); omega; intro v4 w4 ho4 hg4 hl4; have hs4 := hg4.size; rw [List.nil_append] at ho4; obtain ⟨ao4, cap4, q4⟩ := ownI_form ho4; rw [hEk] at q4; subst q4; unfold OwnI at ho4; rw [hEk] at ho4; have OWN4 := hidm ho4; have t1 : Hid True := True.intro; clear ho4))
          go_ret
          refine ⟨_, _, rfl, HLAY.out _ HGG.out, ?_, (hb2.grown hg4 (fun k e => by cases e)).alloc _ |>.grown hgrow (fun k e => (OWN4.out.lt k e).1)⟩
          unfold OwnI
          rw [List.length_append, List.map_append, hEk]
          exact hown1
      · have hEI : (Z.length : Int) - 1 = -1 := by omega
        have HGG := hidm (layG_pad (X := X) (Z := Z) (fun q => hZ q.1))
        have hd51 : decide ((-1 : Int) ≥ 0) = false := by decide
        clear hZ hls hend hcode2
        rw [← eu]
        clear eu
        go_wp2
        refine wp_region_later (by kernel_rfl) (by kernel_rfl) ?_
        repeat (go_big_quiet_step (fail))
        refine wpQuiet_nil ?_
        rintro _ ⟨q2, rfl⟩
        have HO0 := hidm (ownI_kept HOO.out (Kept.of_bel (S := fun _ _ => False) q2.is_) (fun _ _ _ _ s => s))
        have hb2 := btrans b2 q2.is_
        clear D0 D1 D2 D3 D4
        generalize q2.at_ = w3 at HO0 hb2 ⊢
        go_wp2
        go_loopw [6] (fun o wr => ∃ p : Nat, Z.length + p ≤ max Z.length (fstN X Z) ∧ OwnI w.heap.size wr o (Z ++ List.replicate p (-1)) ∧ Bel w wr) (fun o _ => fstN X Z - lenOf o)
        case atStart => exact ⟨0, by omega, by simpa using HO0.out, hb2⟩
        case round =>
          obtain ⟨p, hp, hO, hB⟩ := hrel
          rename World => wr
          obtain ⟨ao3, cap3, q⟩ := ownI_form hO
          subst q
          have hlen : (Z ++ List.replicate p (-1 : Int)).length = Z.length + p := by simp
          have hfle := fstN_le X Z
          have hcl2 := refClear_any X (Z ++ List.replicate p (-1)) (xAt X L) ((Z.length + p : Nat) : Int) (.slice (some ⟨cb, co, none⟩) X.length cap) (.slice ao3 (Z ++ List.replicate p (-1 : Int)).length cap3) wr hX (by omega) (by omega) (by omega) (pad_in HPL.out p) (code_bel HV.out hB) (own_ints hO)
          rw [HPC.out p, hlen] at hcl2
          rw [hlen] at hO ⊢
          have HOr := hidm hO
          obtain ⟨d0, d1, d2, d3, d4⟩ := (HCA.out.stay hcb hB) L (by have := HL.out; omega)
          rw [show X.getD L Ins.zero = xAt X L from rfl] at d0 d1 d2 d3 d4
          have hcbr : cb < wr.heap.size := Nat.lt_of_lt_of_le hcb hB.size
          have hsr := hB.size
          clear hO
          by_cases hf : fstN X Z ≤ Z.length + p
          · have HM := hidm (HT.out p hp hf HGG.out)
            rw [decide_eq_true hf] at hcl2
            go_wp2_with (first
              | (have q := t1; at_builtin; refine wpList_append_lies _ rfl (.tmp 116) (.tmp 118) 25 rfl w.heap.size 3 i0 _ 1 8 Try.underlying25 hi hz0 hz1 hz2 rfl (by decide) _ _ _ rfl (HO4.out.alloc _) ⟨w4.heap.size, 0, none⟩ 2 2 [.int .i64 L, .int .i64 (-1)] rfl rfl (World.news_of_block (cs := #[.int .i64 L, .int .i64 (-1)]) (t := 3) (fr := (0, 0)) (heap_alloc_new w4 _)) (by simp [Value.oneCell']) (by omega) (by unfold maxLen; omega) (by omega) (by simp; omega) (w4.heap.size + 1) (by simp) ?_; intro gg cap1 w5 hown1 hgrow hat hlt1)
              | (go_at_call 28; refine hcl2.mono ?_; rintro e w4 ⟨rfl, b4⟩; have HO4 := hidm (ownI_kept HOr.out (Kept.of_bel (S := fun _ _ => False) b4) (fun _ _ _ _ s => s)); have hs4 := b4.size; have t1 : Hid True := True.intro))
            go_ret
            refine ⟨_, _, rfl, HLAY.out _ HM.out, ?_, ((btrans hB b4).alloc _).grown hgrow (fun k e => (ownI_block HO4.out k e).1)⟩
            unfold OwnI
            rw [List.length_append, List.map_append]
            rw [hlen] at hown1 ⊢
            exact hown1
          · rw [decide_eq_false hf] at hcl2
            go_wp2_with (first
              | (have q := t1; at_builtin; refine wpList_append_lies _ rfl (.tmp 113) (.tmp 114) 25 rfl w.heap.size 3 i0 _ 1 8 Try.underlying25 hi hz0 hz1 hz2 rfl (by decide) _ _ _ rfl (HO4.out.alloc _) ⟨w4.heap.size, 0, none⟩ 1 1 [.int .i64 (-1)] rfl rfl (cell_one_new _ _ _) (by intro u hu; simp at hu; subst hu; rfl) (by omega) (by unfold maxLen; omega) (by omega) (by simp; omega) (w4.heap.size + 1) (by simp) ?_; intro gg cap1 w5 hown1 hgrow hat hlt1)
              | (go_at_call 28; refine hcl2.mono ?_; rintro e w4 ⟨rfl, b4⟩; have HO4 := hidm (ownI_kept HOr.out (Kept.of_bel (S := fun _ _ => False) b4) (fun _ _ _ _ s => s)); have hs4 := b4.size; have t1 : Hid True := True.intro))
            have e1 : Z ++ List.replicate (p + 1) (-1 : Int) = (Z ++ List.replicate p (-1)) ++ [-1] := by rw [List.replicate_succ', List.append_assoc]
            go_roundw
            case rel => exact ⟨p + 1, by omega, by
                rw [e1]
                unfold OwnI
                rw [List.length_append, List.map_append]
                rw [hlen] at hown1 ⊢
                exact hown1, ((btrans hB b4).alloc _).grown hgrow (fun k e => (ownI_block HO4.out k e).1)⟩
            case measure => simp only [lenOf]; omega
end Go.Proofs.Ytpmofaajkhllpaa
