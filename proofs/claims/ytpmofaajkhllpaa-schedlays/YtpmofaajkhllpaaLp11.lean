/-
  The contract of lineOf.
-/
import Derived.Test.YtpmofaajkhllpaaLo11
namespace Go.Proofs.Ytpmofaajkhllpaa
set_option maxRecDepth 20000
set_option linter.unusedVariables false
set_option linter.unusedSimpArgs false
open Go.ChangeShapes Go.WideShapes Go.ChangeAt Go.RowKit

set_option maxHeartbeats 4000000 in
theorem line_any (X : List Ins) (v : Value) (w : World) (hX : X.length ≤ 1000) (hv : Code w v X) :
    Calls Try.prog 21 #[v] w fun e W' => ∃ b hg hc ag bg bv rv aw R, e = .returned (.pointer (some ⟨b, 0, none⟩)) ∧ LineM w.heap.size W'.heap.size W' b X hg hc ag bg bv (fun i => behL X i X.length) rv aw R [] ∧ LI X [] aw R [] ∧ Bel w W' := by
  have hcall : ∀ ww, Bel w ww → _ := fun ww hb => heights_any X v ww hX (code_bel hv hb)
  have HV := hidm hv
  obtain ⟨ao, cap, rfl, hcode⟩ := hv
  clear hcode
  have hmk1 : ∀ W : World, (Instr.makeSlice 25 (.int .i64 X.length) (.int .i64 X.length)).run Try.prog W = .ok (.slice (some ⟨W.heap.size, 0, none⟩) X.length X.length) (W.alloc (intB (fun _ => 0) X.length)) := fun W => make_ints X.length (by omega) _ rfl W
  have hmk2 := make_beh X.length (by omega) _ rfl
  go_enter Try.func21, Try.ntmps21
  go_upto_region 1 with fail
  go_cut [3] from 9 to 18 (fun s3 wx => ∃ b hg hc ag bg, s3 = .pointer (some ⟨b, 0, none⟩) ∧ LineM w.heap.size wx.heap.size wx b X hg hc ag bg (fun _ => .slice none 0 0) (fun _ => []) (.slice none 0 0) (fun _ => 0) [] [] ∧ Bel w wx)
  case first =>
    go_region_law (go_simp; go_at_call 34; refine (hcall _ (by repeat (first | exact Bel.refl _ | apply Bel.drew | apply Bel.alloc))).mono ?_; rintro e w2 ⟨g, c, rfl, hg0, hrow, bb⟩)
    all_goals
      go_wp2_with fail
      go_meet
      have bb' := btrans (Bel.drew (Bel.refl _)) bb
      have hgl := lt_of_heap hrow
      have hz := bb'.size
      simp at hg0 hz
      refine ⟨_, g, c, _, _, rfl, line_new (heap_newN (by simp)) ?_ ?_ ?_ ?_ ?_ ?_ ?_ ?_ ?_ ?_, ?_⟩
      · first | exact heap_old hrow | exact heap_old (heap_old hrow) | exact heap_old (heap_old (heap_old hrow))
      · first | exact heap_old (heap_newN (by simp)) | exact heap_old (heap_old (heap_newN (by simp))) | exact heap_old (bel_heap bb' (heap_newN (by simp))) | exact heap_old (bel_heap bb' (heap_old (heap_newN (by simp)))) | exact heap_old (heap_old (bel_heap bb' (heap_newN (by simp))))
      · first | exact heap_old (heap_newN (by simp)) | exact heap_old (heap_old (heap_newN (by simp))) | exact heap_old (bel_heap bb' (heap_newN (by simp))) | exact heap_old (bel_heap bb' (heap_old (heap_newN (by simp)))) | exact heap_old (heap_old (bel_heap bb' (heap_newN (by simp))))
      all_goals first | omega | (simp; omega) | (simp; done) | skip
      exact Bel.alloc (by repeat (first | exact btrans (by repeat (first | exact Bel.refl _ | apply Bel.alloc)) bb' | apply Bel.alloc)) _
  case rest =>
    obtain ⟨b, hg, hc, ag, bg, rfl, hM0, hB0⟩ := hcut
    rename World => wc
    have hT0 := trail_new wc.heap.size wc X (Nat.le_refl _)
    have hM1 := hM0.bel ((Bel.refl wc).alloc trl0)
    have hB1 := hB0.alloc trl0
    have hws : wc.heap.size ≤ (wc.alloc trl0).heap.size := by simp
    have hbwc := lt_of_heap hM0.rdy.box
    have HT0 := hidm hT0
    have HM1 := hidm hM1
    have HB1 := hidm hB1
    clear hT0 hM1 hB1 hM0 hmk1 hmk2
    go_wp2_with (refine wpList_alloc_trail (by rfl) (by rfl) ?_)
    generalize wc.alloc trl0 = wt at HT0 HM1 HB1 hws ⊢
    go_loopw [21] (fun i wr => ∃ (k : Nat) (tv : Nat → Value) (bv : Nat → Value) (rv : Value) (aw : Nat → Int) (R : List Pr), k ≤ X.length ∧ i = .int .i64 k ∧ LineM w.heap.size wc.heap.size wr b X hg hc ag bg bv (fun c => behL X c k) rv aw R [] ∧ Hid (∀ j, j < X.length → aw j = if j < k then ((ofL X j).length : Int) else 0) ∧ Hid (IsR X (fun j => j < k ∧ ofL X j = []) R) ∧ TrM wc.heap.size wr wc.heap.size tv X k ∧ Bel w wr) (fun i _ => X.length - (intOf i).toNat)
    case atStart => exact ⟨0, _, _, _, _, [], Nat.zero_le _, rfl, HM1.out.cong (fun i _ => by simp [behL]) (fun _ _ => rfl), fun j hj => by simp, IsR.nil (fun j _ q => by omega), HT0.out, HB1.out⟩
    case round =>
      obtain ⟨k, tv, bv, rv, aw, R, hk, rfl, hM, hA, hR, hT, hB⟩ := hrel
      rename World => wr
      clear HT0 HM1 HB1
      by_cases hlt : k < X.length
      · have hkn : k ≤ 1000 := by omega
        have htof := fun ww (h : TrM wc.heap.size ww wc.heap.size tv X k) => tof_any wc.heap.size wc.heap.size tv X k (by omega) ww h
        have htad := fun ww (hn : wc.heap.size ≤ ww.heap.size) (h : TrM wc.heap.size ww wc.heap.size tv X k) => tadd_any wc.heap.size wc.heap.size tv X k (by omega) ww hn h
        have hfar := fun (c : Nat) ww => far_any (xAt X c) (xAt X k) ww
        have hol := ofL_len X k
        have hom := ofL_mem X k
        have hcode := code_bel HV.out hB
        obtain ⟨ao', cap', e1, hcd⟩ := hcode
        cases e1
        obtain ⟨cb, co, rfl, hcb, hca⟩ := hcd (by omega)
        obtain ⟨x0, x1, x2, x3, x4⟩ := hca k hlt
        have hx0 : (X.getD k Ins.zero) = xAt X k := rfl
        rw [hx0] at x0 x1 x2 x3 x4
        have htbw := lt_of_heap hT.box
        have hcw := lt_of_heap hM.rdy.box
        have hsw := hB.size
        have HCA := hidm hca
        have HM := hidm hM
        have HT := hidm hT
        have HOM := hidm hom
        clear hca hcd hM hT hx0 hom
        unfold Ins.val at htof htad hfar
        go_wp2_with (go_at_call 35; refine (htof _ (HT.out.bel ((Bel.refl _).alloc _))).mono ?_; rintro e w2 ⟨v, rfl, ho, bo⟩; obtain ⟨ao2, cap2, q⟩ := ownI_form ho; subst q)
        have b2 : Bel wr w2 := btrans ((Bel.refl _).alloc _) bo
        have bx2 := bel_heap bo (heap_new wr (Obj.cells #[.int .i64 (xAt X k).o, .int .i64 (xAt X k).a, .int .i64 (xAt X k).b, .int .i64 (xAt X k).c, .int .i64 (xAt X k).i] 30))
        have hak : aw k = 0 := by rw [hA.out k hlt, if_neg (by omega)]
        have hbs2 := b2.size
        obtain ⟨i0, hi, hz0, hz1, hz2⟩ := info_parts folInfo
        have HO := hidm (ownI_low ho (show wc.heap.size ≤ _ by simp; omega))
        have HB := hidm hB
        clear x0 x1 x2 x3 x4 htof ho hB HCA hcall
        go_loopw [29] (fun i wi => ∃ (m : Nat) (bv2 : Nat → Value), m ≤ (ofL X k).length ∧ i = .int .i64 m ∧ LineM w.heap.size wc.heap.size wi b X hg hc ag bg bv2 (inF X k m) rv (updN aw k m) R [] ∧ TrM wc.heap.size wi wc.heap.size tv X k ∧ wi.heap[wr.heap.size]? = some (Obj.cells #[.int .i64 (xAt X k).o, .int .i64 (xAt X k).a, .int .i64 (xAt X k).b, .int .i64 (xAt X k).c, .int .i64 (xAt X k).i] 30) ∧ OwnI wc.heap.size wi (.slice ao2 (ofL X k).length cap2) (ofL X k) ∧ Bel w wi) (fun i _ => (ofL X k).length - (intOf i).toNat)
        case atStart => exact ⟨0, bv, Nat.zero_le _, rfl, (HM.out.bel b2).cong (fun i _ => (inF_zero X k i).symm) (fun i _ => by
            unfold updN
            by_cases q : i = k
            · rw [if_pos q, q, hak]; rfl
            · rw [if_neg q]), HT.out.bel b2, bx2, HO.out, btrans HB.out b2⟩
        case round =>
          obtain ⟨m, bv2, hm, rfl, hMi, hTi, hxi, hoi, hBi⟩ := hrel
          rename World => wi
          clear HO bx2 b2 bo
          by_cases hlt3 : m < (ofL X k).length
          · obtain ⟨c, hcm, hck, hcf⟩ := HOM.out ((ofL X k).getD m 0) (by rw [show (ofL X k).getD m 0 = (ofL X k)[m] by simp [List.getD, hlt3]]; exact List.getElem_mem hlt3)
            obtain ⟨ao3, cap3, e3, hv3⟩ := ints_view hoi
            cases e3
            obtain ⟨g3, rfl, _, hg31, _, _, hcell3⟩ := hv3 (by omega)
            have hc3 := hcell3 m hlt3
            rw [hcm] at hc3
            have HSTEP := hidm (inF_step X k m c hlt3 hcm)
            have hfl := inF_len X k m c hkn
            obtain ⟨_, _, e4, hcd4⟩ := code_bel HV.out hBi
            cases e4
            obtain ⟨_, _, e5, hcb5, hca5⟩ := hcd4 (by omega)
            obtain ⟨_, _, e6, hcd6⟩ := HV.out
            cases e6
            obtain ⟨_, _, e7, hcbw, _⟩ := hcd6 (by omega)
            cases e7
            cases e5
            obtain ⟨y0, y1, y2, y3, y4⟩ := hca5 c (by omega)
            rw [show X.getD c Ins.zero = xAt X c from rfl] at y0 y1 y2 y3 y4
            obtain ⟨z0, z1, z2, z3, z4⟩ := box_cells hxi
            have kb := hMi.cells.2.2.1
            have kc := cellN hMi.beh.beh c (by omega)
            have hfc := hfar c
            have hcX : (c : Int) < X.length := by omega
            have hcXn : c < X.length := by omega
            have HMI := hidm hMi
            have HTI := hidm hTi
            have HXI := hidm hxi
            have HOI := hidm hoi
            have hbi := lt_of_heap hMi.rdy.box
            have hbgi := lt_of_heap hMi.beh.beh
            have hnei := hMi.beh.ne c hcXn
            have hn0 := hB0.size
            have hni := hBi.size
            clear hMi hTi hxi hoi hcell3 hv3 hca5 hcd4 hcm htad HT HM
            generalize hD : farI (xAt X c) (xAt X k) = d at hfc HSTEP
            clear hD
            have hnb : (bv2 c).ownBlock ≠ some b := fun s => by
              obtain ⟨_, cur, hcur⟩ := own2_block (HMI.out.beh.rows c hcXn) _ s
              rw [HMI.out.rdy.box] at hcur; injection hcur with q; injection q with _ q _; exact absurd q (by decide)
            have hnx : (bv2 c).ownBlock ≠ some wr.heap.size := fun s => by
              obtain ⟨_, cur, hcur⟩ := own2_block (HMI.out.beh.rows c hcXn) _ s
              have q := HXI.out.symm.trans hcur; injection q with q; injection q with _ q _; exact absurd q (by decide)
            have hncb : (bv2 c).ownBlock ≠ some cb := fun s => by
              obtain ⟨q, _⟩ := own2_block (HMI.out.beh.rows c hcXn) _ s
              omega
            have hxl := lt_of_heap HXI.out
            have hd1 : ¬ b = bg := fun e => HMI.out.ne.2.2 e.symm
            have hd2 : ¬ bg = b := fun e => HMI.out.ne.2.2 e
            have hbgw : w.heap.size ≤ bg := HMI.out.beh.low
            have hd3 : ¬ cb = bg := by omega
            have hd4 : ¬ bg = cb := by omega
            have hd5 : ¬ wr.heap.size = bg := fun e => by
              have q := HXI.out
              rw [e, HMI.out.beh.beh] at q; injection q with q; injection q with _ q _; exact absurd q (by decide)
            have hd6 : ¬ bg = wr.heap.size := fun e => hd5 e.symm
            go_wp2_with fail
            refine wp_region_held_drew (S := (fun w' => w'.cell? ⟨b, 2, none⟩ = some (.slice (some ⟨bg, 0, none⟩) X.length X.length) ∧ w'.cell? ⟨cb, co + c * 5, none⟩ = some (.int .i64 (xAt X c).o) ∧ w'.cell? ⟨cb, co + c * 5 + 1, none⟩ = some (.int .i64 (xAt X c).a) ∧ w'.cell? ⟨cb, co + c * 5 + 2, none⟩ = some (.int .i64 (xAt X c).b) ∧ w'.cell? ⟨cb, co + c * 5 + 3, none⟩ = some (.int .i64 (xAt X c).c) ∧ w'.cell? ⟨cb, co + c * 5 + 4, none⟩ = some (.int .i64 (xAt X c).i) ∧ w'.cell? ⟨wr.heap.size, 0, none⟩ = some (.int .i64 (xAt X k).o) ∧ w'.cell? ⟨wr.heap.size, 1, none⟩ = some (.int .i64 (xAt X k).a) ∧ w'.cell? ⟨wr.heap.size, 2, none⟩ = some (.int .i64 (xAt X k).b) ∧ w'.cell? ⟨wr.heap.size, 3, none⟩ = some (.int .i64 (xAt X k).c) ∧ w'.cell? ⟨wr.heap.size, 4, none⟩ = some (.int .i64 (xAt X k).i))) (by kernel_rfl) (by (try dsimp only); go_keep) (fun hHeld => ?_)
            refine wpAnyH_take (i := 0) (v := ?_) (by simp only [List.getElem?_toArray, List.getElem?_cons_succ, List.getElem?_cons_zero]; rfl) (by kernel_rfl) (by kernel_rfl) (by kernel_rfl) (by intro _ _ _ h; exact h) (Or.inl ⟨by rfl, ?_⟩) (by assumption) ?_
            rotate_left 1
            · (intro w9 hSw; (try dsimp only at hSw); go_simp; try with_reducible rfl)
            try simp only [Act.put, List.setIfInBounds_toArray, List.set_cons_zero, List.set_cons_succ]
            refine wpAnyH_take (i := 1) (v := ?_) (by simp only [List.getElem?_toArray, List.getElem?_cons_succ, List.getElem?_cons_zero]; rfl) (by kernel_rfl) (by kernel_rfl) (by kernel_rfl) (by intro _ _ _ h; exact h) (Or.inl ⟨by rfl, ?_⟩) (by assumption) ?_
            rotate_left 1
            · (intro w9 hSw; (try dsimp only at hSw); go_simp; try with_reducible rfl)
            try simp only [Act.put, List.setIfInBounds_toArray, List.set_cons_zero, List.set_cons_succ]
            refine wpAnyH_take (i := 2) (v := ?_) (by simp only [List.getElem?_toArray, List.getElem?_cons_succ, List.getElem?_cons_zero]; rfl) (by kernel_rfl) (by kernel_rfl) (by kernel_rfl) (by intro _ _ _ h; exact h) (Or.inl ⟨by rfl, ?_⟩) (by assumption) ?_
            rotate_left 1
            · (intro w9 hSw; (try dsimp only at hSw); go_simp; try with_reducible rfl)
            try simp only [Act.put, List.setIfInBounds_toArray, List.set_cons_zero, List.set_cons_succ]
            refine wpAnyH_take (i := 3) (v := ?_) (by simp only [List.getElem?_toArray, List.getElem?_cons_succ, List.getElem?_cons_zero]; rfl) (by kernel_rfl) (by kernel_rfl) (by kernel_rfl) (by intro _ _ _ h; exact h) (Or.inl ⟨by rfl, ?_⟩) (by assumption) ?_
            rotate_left 1
            · (intro w9 hSw; (try dsimp only at hSw); go_simp; try with_reducible rfl)
            try simp only [Act.put, List.setIfInBounds_toArray, List.set_cons_zero, List.set_cons_succ]
            refine wpAnyH_take (i := 4) (v := ?_) (by simp only [List.getElem?_toArray, List.getElem?_cons_succ, List.getElem?_cons_zero]; rfl) (by kernel_rfl) (by kernel_rfl) (by kernel_rfl) (by intro _ _ _ h; exact h) (Or.inl ⟨by rfl, ?_⟩) (by assumption) ?_
            rotate_left 1
            · (intro w9 hSw; (try dsimp only at hSw); go_simp; try with_reducible rfl)
            try simp only [Act.put, List.setIfInBounds_toArray, List.set_cons_zero, List.set_cons_succ]
            refine wpAnyH_take (i := 5) (v := ?_) (by simp only [List.getElem?_toArray, List.getElem?_cons_succ, List.getElem?_cons_zero]; rfl) (by kernel_rfl) (by kernel_rfl) (by kernel_rfl) (by intro _ _ _ h; exact h) (Or.inl ⟨by rfl, ?_⟩) (by assumption) ?_
            rotate_left 1
            · (intro w9 hSw; (try dsimp only at hSw); go_simp; try with_reducible rfl)
            try simp only [Act.put, List.setIfInBounds_toArray, List.set_cons_zero, List.set_cons_succ]
            refine wpAnyH_take (i := 6) (v := ?_) (by simp only [List.getElem?_toArray, List.getElem?_cons_succ, List.getElem?_cons_zero]; rfl) (by kernel_rfl) (by kernel_rfl) (by kernel_rfl) (by intro _ _ _ h; exact h) (Or.inl ⟨by rfl, ?_⟩) (by assumption) ?_
            rotate_left 1
            · (intro w9 hSw; (try dsimp only at hSw); go_simp; try with_reducible rfl)
            try simp only [Act.put, List.setIfInBounds_toArray, List.set_cons_zero, List.set_cons_succ]
            refine wpAnyH_take (i := 7) (v := ?_) (by simp only [List.getElem?_toArray, List.getElem?_cons_succ, List.getElem?_cons_zero]; rfl) (by kernel_rfl) (by kernel_rfl) (by kernel_rfl) (by intro _ _ _ h; exact h) (Or.inl ⟨by rfl, ?_⟩) (by assumption) ?_
            rotate_left 1
            · (intro w9 hSw; (try dsimp only at hSw); go_simp; try with_reducible rfl)
            try simp only [Act.put, List.setIfInBounds_toArray, List.set_cons_zero, List.set_cons_succ]
            refine wpAnyH_take (i := 8) (v := ?_) (by simp only [List.getElem?_toArray, List.getElem?_cons_succ, List.getElem?_cons_zero]; rfl) (by kernel_rfl) (by kernel_rfl) (by kernel_rfl) (by intro _ _ _ h; exact h) (Or.inl ⟨by rfl, ?_⟩) (by assumption) ?_
            rotate_left 1
            · (intro w9 hSw; (try dsimp only at hSw); go_simp; try with_reducible rfl)
            try simp only [Act.put, List.setIfInBounds_toArray, List.set_cons_zero, List.set_cons_succ]
            refine wpAnyH_take (i := 9) (v := ?_) (by simp only [List.getElem?_toArray, List.getElem?_cons_succ, List.getElem?_cons_zero]; rfl) (by kernel_rfl) (by kernel_rfl) (by kernel_rfl) (by intro _ _ _ h; exact h) (Or.inl ⟨by rfl, ?_⟩) (by assumption) ?_
            rotate_left 1
            · (intro w9 hSw; (try dsimp only at hSw); go_simp; try with_reducible rfl)
            try simp only [Act.put, List.setIfInBounds_toArray, List.set_cons_zero, List.set_cons_succ]
            refine wpAnyH_take (i := 10) (v := ?_) (by simp only [List.getElem?_toArray, List.getElem?_cons_succ, List.getElem?_cons_zero]; rfl) (by kernel_rfl) (by kernel_rfl) (by kernel_rfl) (by intro _ _ _ h; exact h) (Or.inl ⟨by rfl, ?_⟩) (by assumption) ?_
            rotate_left 1
            · (intro w9 hSw; (try dsimp only at hSw); go_simp; try with_reducible rfl)
            try simp only [Act.put, List.setIfInBounds_toArray, List.set_cons_zero, List.set_cons_succ]
            refine wpAnyH_take (i := 12) (v := ?_) (by simp only [List.getElem?_toArray, List.getElem?_cons_succ, List.getElem?_cons_zero]; rfl) (by kernel_rfl) (by kernel_rfl) (by kernel_rfl) (by intro _ _ _ h; exact h) (Or.inl ⟨by rfl, ?_⟩) (by assumption) ?_
            rotate_left 1
            · (intro w9 hSw; (try dsimp only at hSw); go_simp; try with_reducible rfl)
            try simp only [Act.put, List.setIfInBounds_toArray, List.set_cons_zero, List.set_cons_succ]
            refine wpAnyH_take (i := 13) (v := ?_) (by simp only [List.getElem?_toArray, List.getElem?_cons_succ, List.getElem?_cons_zero]; rfl) (by kernel_rfl) (by kernel_rfl) (by kernel_rfl) (by intro _ _ _ h; exact h) (Or.inl ⟨by rfl, ?_⟩) (by assumption) ?_
            rotate_left 1
            · (intro w9 hSw; (try dsimp only at hSw); go_simp; try with_reducible rfl)
            try simp only [Act.put, List.setIfInBounds_toArray, List.set_cons_zero, List.set_cons_succ]
            refine wpAnyH_take (i := 14) (v := ?_) (by simp only [List.getElem?_toArray, List.getElem?_cons_succ, List.getElem?_cons_zero]; rfl) (by kernel_rfl) (by kernel_rfl) (by kernel_rfl) (by intro _ _ _ h; exact h) (Or.inl ⟨by rfl, ?_⟩) (by assumption) ?_
            rotate_left 1
            · (intro w9 hSw; (try dsimp only at hSw); go_simp; try with_reducible rfl)
            try simp only [Act.put, List.setIfInBounds_toArray, List.set_cons_zero, List.set_cons_succ]
            refine wpAnyH_take (i := 15) (v := ?_) (by simp only [List.getElem?_toArray, List.getElem?_cons_succ, List.getElem?_cons_zero]; rfl) (by kernel_rfl) (by kernel_rfl) (by kernel_rfl) (by intro _ _ _ h; exact h) (Or.inl ⟨by rfl, ?_⟩) (by assumption) ?_
            rotate_left 1
            · (intro w9 hSw; (try dsimp only at hSw); go_simp; try with_reducible rfl)
            try simp only [Act.put, List.setIfInBounds_toArray, List.set_cons_zero, List.set_cons_succ]
            refine wpAnyH_take (i := 16) (v := ?_) (by simp only [List.getElem?_toArray, List.getElem?_cons_succ, List.getElem?_cons_zero]; rfl) (by kernel_rfl) (by kernel_rfl) (by kernel_rfl) (by intro _ _ _ h; exact h) (Or.inl ⟨by rfl, ?_⟩) (by assumption) ?_
            rotate_left 1
            · (intro w9 hSw; (try dsimp only at hSw); go_simp; try with_reducible rfl)
            try simp only [Act.put, List.setIfInBounds_toArray, List.set_cons_zero, List.set_cons_succ]
            refine wpAnyH_take (i := 17) (v := ?_) (by simp only [List.getElem?_toArray, List.getElem?_cons_succ, List.getElem?_cons_zero]; rfl) (by kernel_rfl) (by kernel_rfl) (by kernel_rfl) (by intro _ _ _ h; exact h) (Or.inl ⟨by rfl, ?_⟩) (by assumption) ?_
            rotate_left 1
            · (intro w9 hSw; (try dsimp only at hSw); go_simp; try with_reducible rfl)
            try simp only [Act.put, List.setIfInBounds_toArray, List.set_cons_zero, List.set_cons_succ]
            refine wpAnyH_ready (rs := [11, 18]) (by kernel_rfl) (by simp) ?_
            refine AllReadyH.cons (by simp only [List.getElem?_toArray, List.getElem?_cons_succ, List.getElem?_cons_zero]; rfl) (fun K9 hK9 => ?_) (AllReadyH.cons (by simp only [List.getElem?_toArray, List.getElem?_cons_succ, List.getElem?_cons_zero]; rfl) (fun K9 hK9 => ?_) (AllReadyH.nil))
            · skip
              go_simp
              refine hK9.out _ _ (by (try dsimp only); go_keep) (fun hHeld => ?_)
              clear hK9 K9
              refine wpAnyH_ready (rs := [18]) (by kernel_rfl) (by simp) ?_
              refine AllReadyH.cons (by simp only [List.getElem?_toArray, List.getElem?_cons_succ, List.getElem?_cons_zero]; rfl) (fun K9 hK9 => ?_) (AllReadyH.nil)
              go_simp
              go_wp2_with (go_at_call 36; refine (hfc _).mono ?_; rintro e w3 ⟨rfl, bf'⟩; have bf : Bel wi w3 := btrans ((Bel.refl _).drew) bf'; have hc3' := fun q o (hq : q < wi.heap.size) => (bcell bf).1 q o hq; have kb3 := (hc3' b 2 hbi).trans kb; have kc3 := (hc3' bg c hbgi).trans kc; have t1 := (hc3' cb _ (by omega)).trans y0; have t2 := (hc3' cb _ (by omega)).trans y1; have t3 := (hc3' cb _ (by omega)).trans y2; have t4 := (hc3' cb _ (by omega)).trans y3; have t5 := (hc3' cb _ (by omega)).trans y4; have t6 := (hc3' _ _ hxl).trans z0; have t7 := (hc3' _ _ hxl).trans z1; have t8 := (hc3' _ _ hxl).trans z2; have t9 := (hc3' _ _ hxl).trans z3; have t10 := (hc3' _ _ hxl).trans z4; clear hc3'; have hs3 := bf.size; have hbg3 := lt_of_heap (HMI.out.bel bf).beh.beh; have hb3 := lt_of_heap (HMI.out.bel bf).rdy.box; have hx3 : wr.heap.size < w3.heap.size := (by omega); have hcb3 : cb < w3.heap.size := (by omega))
              refine hK9.out _ _ (by (try dsimp only); go_keep) (fun hHeld => ?_)
              clear hK9 K9
              refine wpAnyH_take (i := 19) (v := ?_) (by simp only [List.getElem?_toArray, List.getElem?_cons_succ, List.getElem?_cons_zero]; rfl) (by kernel_rfl) (by kernel_rfl) (by kernel_rfl) (by intro _ _ _ h; exact h) (Or.inl ⟨by rfl, ?_⟩) (by assumption) ?_
              rotate_left 1
              · (intro w9 hSw; (try dsimp only at hSw); go_simp; try with_reducible rfl)
              try simp only [Act.put, List.setIfInBounds_toArray, List.set_cons_zero, List.set_cons_succ]
              refine wpAnyH_ready (rs := [20]) (by kernel_rfl) (by simp) ?_
              refine AllReadyH.cons (by simp only [List.getElem?_toArray, List.getElem?_cons_succ, List.getElem?_cons_zero]; rfl) (fun K9 hK9 => ?_) (AllReadyH.nil)
              go_simp
              refine hK9.out _ _ (by (try dsimp only); go_keep) (fun hHeld => ?_)
              clear hK9 K9
              refine wpAnyH_ready (rs := [21]) (by kernel_rfl) (by simp) ?_
              refine AllReadyH.cons (by simp only [List.getElem?_toArray, List.getElem?_cons_succ, List.getElem?_cons_zero]; rfl) (fun K9 hK9 => ?_) (AllReadyH.nil)
              refine step_append_lies _ (by rfl) _ _ _ (by rfl) w.heap.size 57 i0 _ 2 16 Try.underlying55 hi hz0 hz1 hz2 rfl (by omega) _ _ _ (by rfl) ((HMI.out.bel bf).beh.rows c hcXn |>.alloc _)
                  ⟨w3.heap.size, 0, none⟩ 1 1 [.int .i64 k, .int .i64 d] (by rfl) (by rfl) (World.news_of_block (cs := #[.int .i64 k, .int .i64 d]) (t := 57) (fr := (0, 0)) (heap_alloc_new w3 _)) (by simp [Value.oneCell'])
                  (by omega) (by unfold maxLen; omega) (by omega) (by have := bf.size; simp; omega) (w3.heap.size + 1) (by simp) ?_; intro gg cap1 w4 hown1 hgrow hat hlt1; have hb1 := (hgrow.block bg (by have := bf.size; simp; omega) hnei.symm).trans (heap_old (HMI.out.bel bf).beh.beh); have f4 := frozen_of hb1 c; have c4 := cellN hb1 c hcXn; have HB4 := hidm hb1; clear hb1; have hf4 : ∀ q, q < wi.heap.size → (bv2 c).ownBlock ≠ some q → ∀ o, w4.cell? ⟨q, o, none⟩ = wi.cell? ⟨q, o, none⟩ := (fun q hq hne o => World.cell?_of_block (((hgrow.block q (by have := bf.size; simp; omega) hne.symm).trans (Below.heap_alloc _ _ q (by have := bf.size; omega))).trans (bf.out.block q hq))); have s0 := (hf4 b hbi hnb 2).trans kb; have s1 := (hf4 cb (by omega) hncb _).trans y0; have s2 := (hf4 cb (by omega) hncb _).trans y1; have s3 := (hf4 cb (by omega) hncb _).trans y2; have s4 := (hf4 cb (by omega) hncb _).trans y3; have s5 := (hf4 cb (by omega) hncb _).trans y4; have s6 := (hf4 _ hxl hnx _).trans z0; have s7 := (hf4 _ hxl hnx _).trans z1; have s8 := (hf4 _ hxl hnx _).trans z2; have s9 := (hf4 _ hxl hnx _).trans z3; have s10 := (hf4 _ hxl hnx _).trans z4; clear hf4
              refine hK9.out _ _ (by (try dsimp only); go_keep) (fun hHeld => ?_)
              clear hK9 K9
              refine wpAnyH_take (i := 22) (v := ?_) (by simp only [List.getElem?_toArray, List.getElem?_cons_succ, List.getElem?_cons_zero]; rfl) (by kernel_rfl) (by kernel_rfl) (by kernel_rfl) (by intro _ _ _ h; exact h) (Or.inl ⟨by rfl, ?_⟩) (by assumption) ?_
              rotate_left 1
              · (intro w9 hSw; (try dsimp only at hSw); go_simp; try with_reducible rfl)
              try simp only [Act.put, List.setIfInBounds_toArray, List.set_cons_zero, List.set_cons_succ]
              refine wpAnyH_ready (rs := [23]) (by kernel_rfl) (by simp) ?_
              refine AllReadyH.cons (by simp only [List.getElem?_toArray, List.getElem?_cons_succ, List.getElem?_cons_zero]; rfl) (fun K9 hK9 => ?_) (AllReadyH.nil)
              go_simp
              refine hK9.out _ _ (by (try dsimp only); go_keep) (fun hHeld => ?_)
              clear hK9 K9
              refine wpAnyH_done (by kernel_rfl) ?_ _
              obtain ⟨r1, r2⟩ := (HMI.out.beh).pushed c hcXn ((k : Int), d) _ (fun S => (Kept.of_bel bf).trans (Kept.alloc S _ _)) gg cap1 _ hown1 hgrow hat (by omega)
              have r3 := (HMI.out.behd c hcXn r1 r2).cong (fun i _ => HSTEP.out i) (fun _ _ => rfl)
              have hx5 := r2.block _ _ HXI.out (fun s => s.elim hd5 hnx)
              have hT5 := HTI.out.fol HMI.out.beh c hcXn r2
              have ho5 := ownI_fol HMI.out.beh c hcXn r2 HOI.out
              have hB5 : Bel w _ := hBi.kept r2 (fun i o s => s.elim (fun e => by rw [e]; exact HMI.out.beh.low) (fun e => (own2_block (HMI.out.beh.rows c hcXn) i e).1))
              clear hHeld s0 s1 s2 s3 s4 s5 s6 s7 s8 s9 s10 y0 y1 y2 y3 y4 z0 z1 z2 z3 z4 kb3 kc3 t1 t2 t3 t4 t5 t6 t7 t8 t9 t10 kb kc c4 f4 hown1 hgrow hat r1 r2
              generalize w4.setCell ⟨bg, c, none⟩ (Value.slice (some ⟨gg, 0, none⟩) ((inF X k m c).length + 1) cap1) = w5 at r3 hx5 hT5 ho5 hB5 ⊢
              obtain ⟨_, q1, _, _, _, _, _⟩ := r3.cells
              have qa := int_cell r3.awt k hlt
              rw [show updN aw k m k = (m : Int) by unfold updN; rw [if_pos rfl]] at qa
              have fa := int_fz r3.awt k
              have hag := r3.agl
              have hkl : (k : Int) < X.length := by omega
              have R3 := hidm r3
              have HT5 := hidm hT5
              have HX5 := hidm hx5
              have HO5 := hidm ho5
              clear r3 hT5 hx5 ho5
              have hmL : (m : Int) ≤ 1010 := by omega
              go_wp2
              go_roundw
              case rel => exact ⟨m + 1, _, by omega, by go_num, (R3.out.set k ((m : Int) + 1)).1.cong (fun _ _ => rfl) (fun i _ => by
                  unfold updN
                  by_cases q : i = k
                  · rw [if_pos q, if_pos q]; push_cast; rfl
                  · rw [if_neg q, if_neg q, if_neg q]), HT5.out.kept (Kept.setCell (fun k _ => k = ag) _ _ _ (fun _ _ => rfl)) (fun _ s => by have s' : wc.heap.size = ag := s; omega) (fun g _ hg s => by have s' : g = ag := s; omega), (heap_set_other (show wr.heap.size ≠ ag by omega)).trans HX5.out, ownI_kept HO5.out (Kept.setCell (fun k _ => k = ag) _ _ _ (fun _ _ => rfl)) (fun g _ _ q s => by have := (ownI_block HO5.out g q).1; have s' : g = ag := s; omega), Bel.setCell hB5 (p := ⟨ag, k, none⟩) hag.1 _⟩
              case measure => simp [intOf]; omega
            · skip
              go_simp
              go_wp2_with (go_at_call 36; refine (hfc _).mono ?_; rintro e w3 ⟨rfl, bf'⟩; have bf : Bel wi w3 := btrans ((Bel.refl _).drew) bf'; have hc3' := fun q o (hq : q < wi.heap.size) => (bcell bf).1 q o hq; have kb3 := (hc3' b 2 hbi).trans kb; have kc3 := (hc3' bg c hbgi).trans kc; have t1 := (hc3' cb _ (by omega)).trans y0; have t2 := (hc3' cb _ (by omega)).trans y1; have t3 := (hc3' cb _ (by omega)).trans y2; have t4 := (hc3' cb _ (by omega)).trans y3; have t5 := (hc3' cb _ (by omega)).trans y4; have t6 := (hc3' _ _ hxl).trans z0; have t7 := (hc3' _ _ hxl).trans z1; have t8 := (hc3' _ _ hxl).trans z2; have t9 := (hc3' _ _ hxl).trans z3; have t10 := (hc3' _ _ hxl).trans z4; clear hc3'; have hs3 := bf.size; have hbg3 := lt_of_heap (HMI.out.bel bf).beh.beh; have hb3 := lt_of_heap (HMI.out.bel bf).rdy.box; have hx3 : wr.heap.size < w3.heap.size := (by omega); have hcb3 : cb < w3.heap.size := (by omega))
              refine hK9.out _ _ (by (try dsimp only); go_keep) (fun hHeld => ?_)
              clear hK9 K9
              refine wpAnyH_take (i := 19) (v := ?_) (by simp only [List.getElem?_toArray, List.getElem?_cons_succ, List.getElem?_cons_zero]; rfl) (by kernel_rfl) (by kernel_rfl) (by kernel_rfl) (by intro _ _ _ h; exact h) (Or.inl ⟨by rfl, ?_⟩) (by assumption) ?_
              rotate_left 1
              · (intro w9 hSw; (try dsimp only at hSw); go_simp; try with_reducible rfl)
              try simp only [Act.put, List.setIfInBounds_toArray, List.set_cons_zero, List.set_cons_succ]
              refine wpAnyH_ready (rs := [11, 20]) (by kernel_rfl) (by simp) ?_
              refine AllReadyH.cons (by simp only [List.getElem?_toArray, List.getElem?_cons_succ, List.getElem?_cons_zero]; rfl) (fun K9 hK9 => ?_) (AllReadyH.cons (by simp only [List.getElem?_toArray, List.getElem?_cons_succ, List.getElem?_cons_zero]; rfl) (fun K9 hK9 => ?_) (AllReadyH.nil))
              · skip
                go_simp
                refine hK9.out _ _ (by (try dsimp only); go_keep) (fun hHeld => ?_)
                clear hK9 K9
                refine wpAnyH_ready (rs := [20]) (by kernel_rfl) (by simp) ?_
                refine AllReadyH.cons (by simp only [List.getElem?_toArray, List.getElem?_cons_succ, List.getElem?_cons_zero]; rfl) (fun K9 hK9 => ?_) (AllReadyH.nil)
                go_simp
                refine hK9.out _ _ (by (try dsimp only); go_keep) (fun hHeld => ?_)
                clear hK9 K9
                refine wpAnyH_ready (rs := [21]) (by kernel_rfl) (by simp) ?_
                refine AllReadyH.cons (by simp only [List.getElem?_toArray, List.getElem?_cons_succ, List.getElem?_cons_zero]; rfl) (fun K9 hK9 => ?_) (AllReadyH.nil)
                refine step_append_lies _ (by rfl) _ _ _ (by rfl) w.heap.size 57 i0 _ 2 16 Try.underlying55 hi hz0 hz1 hz2 rfl (by omega) _ _ _ (by rfl) ((HMI.out.bel bf).beh.rows c hcXn |>.alloc _)
                  ⟨w3.heap.size, 0, none⟩ 1 1 [.int .i64 k, .int .i64 d] (by rfl) (by rfl) (World.news_of_block (cs := #[.int .i64 k, .int .i64 d]) (t := 57) (fr := (0, 0)) (heap_alloc_new w3 _)) (by simp [Value.oneCell'])
                  (by omega) (by unfold maxLen; omega) (by omega) (by have := bf.size; simp; omega) (w3.heap.size + 1) (by simp) ?_; intro gg cap1 w4 hown1 hgrow hat hlt1; have hb1 := (hgrow.block bg (by have := bf.size; simp; omega) hnei.symm).trans (heap_old (HMI.out.bel bf).beh.beh); have f4 := frozen_of hb1 c; have c4 := cellN hb1 c hcXn; have HB4 := hidm hb1; clear hb1; have hf4 : ∀ q, q < wi.heap.size → (bv2 c).ownBlock ≠ some q → ∀ o, w4.cell? ⟨q, o, none⟩ = wi.cell? ⟨q, o, none⟩ := (fun q hq hne o => World.cell?_of_block (((hgrow.block q (by have := bf.size; simp; omega) hne.symm).trans (Below.heap_alloc _ _ q (by have := bf.size; omega))).trans (bf.out.block q hq))); have s0 := (hf4 b hbi hnb 2).trans kb; have s1 := (hf4 cb (by omega) hncb _).trans y0; have s2 := (hf4 cb (by omega) hncb _).trans y1; have s3 := (hf4 cb (by omega) hncb _).trans y2; have s4 := (hf4 cb (by omega) hncb _).trans y3; have s5 := (hf4 cb (by omega) hncb _).trans y4; have s6 := (hf4 _ hxl hnx _).trans z0; have s7 := (hf4 _ hxl hnx _).trans z1; have s8 := (hf4 _ hxl hnx _).trans z2; have s9 := (hf4 _ hxl hnx _).trans z3; have s10 := (hf4 _ hxl hnx _).trans z4; clear hf4
                refine hK9.out _ _ (by (try dsimp only); go_keep) (fun hHeld => ?_)
                clear hK9 K9
                refine wpAnyH_take (i := 22) (v := ?_) (by simp only [List.getElem?_toArray, List.getElem?_cons_succ, List.getElem?_cons_zero]; rfl) (by kernel_rfl) (by kernel_rfl) (by kernel_rfl) (by intro _ _ _ h; exact h) (Or.inl ⟨by rfl, ?_⟩) (by assumption) ?_
                rotate_left 1
                · (intro w9 hSw; (try dsimp only at hSw); go_simp; try with_reducible rfl)
                try simp only [Act.put, List.setIfInBounds_toArray, List.set_cons_zero, List.set_cons_succ]
                refine wpAnyH_ready (rs := [23]) (by kernel_rfl) (by simp) ?_
                refine AllReadyH.cons (by simp only [List.getElem?_toArray, List.getElem?_cons_succ, List.getElem?_cons_zero]; rfl) (fun K9 hK9 => ?_) (AllReadyH.nil)
                go_simp
                refine hK9.out _ _ (by (try dsimp only); go_keep) (fun hHeld => ?_)
                clear hK9 K9
                refine wpAnyH_done (by kernel_rfl) ?_ _
                obtain ⟨r1, r2⟩ := (HMI.out.beh).pushed c hcXn ((k : Int), d) _ (fun S => (Kept.of_bel bf).trans (Kept.alloc S _ _)) gg cap1 _ hown1 hgrow hat (by omega)
                have r3 := (HMI.out.behd c hcXn r1 r2).cong (fun i _ => HSTEP.out i) (fun _ _ => rfl)
                have hx5 := r2.block _ _ HXI.out (fun s => s.elim hd5 hnx)
                have hT5 := HTI.out.fol HMI.out.beh c hcXn r2
                have ho5 := ownI_fol HMI.out.beh c hcXn r2 HOI.out
                have hB5 : Bel w _ := hBi.kept r2 (fun i o s => s.elim (fun e => by rw [e]; exact HMI.out.beh.low) (fun e => (own2_block (HMI.out.beh.rows c hcXn) i e).1))
                clear hHeld s0 s1 s2 s3 s4 s5 s6 s7 s8 s9 s10 y0 y1 y2 y3 y4 z0 z1 z2 z3 z4 kb3 kc3 t1 t2 t3 t4 t5 t6 t7 t8 t9 t10 kb kc c4 f4 hown1 hgrow hat r1 r2
                generalize w4.setCell ⟨bg, c, none⟩ (Value.slice (some ⟨gg, 0, none⟩) ((inF X k m c).length + 1) cap1) = w5 at r3 hx5 hT5 ho5 hB5 ⊢
                obtain ⟨_, q1, _, _, _, _, _⟩ := r3.cells
                have qa := int_cell r3.awt k hlt
                rw [show updN aw k m k = (m : Int) by unfold updN; rw [if_pos rfl]] at qa
                have fa := int_fz r3.awt k
                have hag := r3.agl
                have hkl : (k : Int) < X.length := by omega
                have R3 := hidm r3
                have HT5 := hidm hT5
                have HX5 := hidm hx5
                have HO5 := hidm ho5
                clear r3 hT5 hx5 ho5
                have hmL : (m : Int) ≤ 1010 := by omega
                go_wp2
                go_roundw
                case rel => exact ⟨m + 1, _, by omega, by go_num, (R3.out.set k ((m : Int) + 1)).1.cong (fun _ _ => rfl) (fun i _ => by
                    unfold updN
                    by_cases q : i = k
                    · rw [if_pos q, if_pos q]; push_cast; rfl
                    · rw [if_neg q, if_neg q, if_neg q]), HT5.out.kept (Kept.setCell (fun k _ => k = ag) _ _ _ (fun _ _ => rfl)) (fun _ s => by have s' : wc.heap.size = ag := s; omega) (fun g _ hg s => by have s' : g = ag := s; omega), (heap_set_other (show wr.heap.size ≠ ag by omega)).trans HX5.out, ownI_kept HO5.out (Kept.setCell (fun k _ => k = ag) _ _ _ (fun _ _ => rfl)) (fun g _ _ q s => by have := (ownI_block HO5.out g q).1; have s' : g = ag := s; omega), Bel.setCell hB5 (p := ⟨ag, k, none⟩) hag.1 _⟩
                case measure => simp [intOf]; omega
              · skip
                go_simp
                refine hK9.out _ _ (by (try dsimp only); go_keep) (fun hHeld => ?_)
                clear hK9 K9
                refine wpAnyH_ready (rs := [11]) (by kernel_rfl) (by simp) ?_
                refine AllReadyH.cons (by simp only [List.getElem?_toArray, List.getElem?_cons_succ, List.getElem?_cons_zero]; rfl) (fun K9 hK9 => ?_) (AllReadyH.nil)
                go_simp
                refine hK9.out _ _ (by (try dsimp only); go_keep) (fun hHeld => ?_)
                clear hK9 K9
                refine wpAnyH_ready (rs := [21]) (by kernel_rfl) (by simp) ?_
                refine AllReadyH.cons (by simp only [List.getElem?_toArray, List.getElem?_cons_succ, List.getElem?_cons_zero]; rfl) (fun K9 hK9 => ?_) (AllReadyH.nil)
                refine step_append_lies _ (by rfl) _ _ _ (by rfl) w.heap.size 57 i0 _ 2 16 Try.underlying55 hi hz0 hz1 hz2 rfl (by omega) _ _ _ (by rfl) ((HMI.out.bel bf).beh.rows c hcXn |>.alloc _)
                  ⟨w3.heap.size, 0, none⟩ 1 1 [.int .i64 k, .int .i64 d] (by rfl) (by rfl) (World.news_of_block (cs := #[.int .i64 k, .int .i64 d]) (t := 57) (fr := (0, 0)) (heap_alloc_new w3 _)) (by simp [Value.oneCell'])
                  (by omega) (by unfold maxLen; omega) (by omega) (by have := bf.size; simp; omega) (w3.heap.size + 1) (by simp) ?_; intro gg cap1 w4 hown1 hgrow hat hlt1; have hb1 := (hgrow.block bg (by have := bf.size; simp; omega) hnei.symm).trans (heap_old (HMI.out.bel bf).beh.beh); have f4 := frozen_of hb1 c; have c4 := cellN hb1 c hcXn; have HB4 := hidm hb1; clear hb1; have hf4 : ∀ q, q < wi.heap.size → (bv2 c).ownBlock ≠ some q → ∀ o, w4.cell? ⟨q, o, none⟩ = wi.cell? ⟨q, o, none⟩ := (fun q hq hne o => World.cell?_of_block (((hgrow.block q (by have := bf.size; simp; omega) hne.symm).trans (Below.heap_alloc _ _ q (by have := bf.size; omega))).trans (bf.out.block q hq))); have s0 := (hf4 b hbi hnb 2).trans kb; have s1 := (hf4 cb (by omega) hncb _).trans y0; have s2 := (hf4 cb (by omega) hncb _).trans y1; have s3 := (hf4 cb (by omega) hncb _).trans y2; have s4 := (hf4 cb (by omega) hncb _).trans y3; have s5 := (hf4 cb (by omega) hncb _).trans y4; have s6 := (hf4 _ hxl hnx _).trans z0; have s7 := (hf4 _ hxl hnx _).trans z1; have s8 := (hf4 _ hxl hnx _).trans z2; have s9 := (hf4 _ hxl hnx _).trans z3; have s10 := (hf4 _ hxl hnx _).trans z4; clear hf4
                refine hK9.out _ _ (by (try dsimp only); go_keep) (fun hHeld => ?_)
                clear hK9 K9
                refine wpAnyH_take (i := 22) (v := ?_) (by simp only [List.getElem?_toArray, List.getElem?_cons_succ, List.getElem?_cons_zero]; rfl) (by kernel_rfl) (by kernel_rfl) (by kernel_rfl) (by intro _ _ _ h; exact h) (Or.inl ⟨by rfl, ?_⟩) (by assumption) ?_
                rotate_left 1
                · (intro w9 hSw; (try dsimp only at hSw); go_simp; try with_reducible rfl)
                try simp only [Act.put, List.setIfInBounds_toArray, List.set_cons_zero, List.set_cons_succ]
                refine wpAnyH_ready (rs := [23]) (by kernel_rfl) (by simp) ?_
                refine AllReadyH.cons (by simp only [List.getElem?_toArray, List.getElem?_cons_succ, List.getElem?_cons_zero]; rfl) (fun K9 hK9 => ?_) (AllReadyH.nil)
                go_simp
                refine hK9.out _ _ (by (try dsimp only); go_keep) (fun hHeld => ?_)
                clear hK9 K9
                refine wpAnyH_done (by kernel_rfl) ?_ _
                obtain ⟨r1, r2⟩ := (HMI.out.beh).pushed c hcXn ((k : Int), d) _ (fun S => (Kept.of_bel bf).trans (Kept.alloc S _ _)) gg cap1 _ hown1 hgrow hat (by omega)
                have r3 := (HMI.out.behd c hcXn r1 r2).cong (fun i _ => HSTEP.out i) (fun _ _ => rfl)
                have hx5 := r2.block _ _ HXI.out (fun s => s.elim hd5 hnx)
                have hT5 := HTI.out.fol HMI.out.beh c hcXn r2
                have ho5 := ownI_fol HMI.out.beh c hcXn r2 HOI.out
                have hB5 : Bel w _ := hBi.kept r2 (fun i o s => s.elim (fun e => by rw [e]; exact HMI.out.beh.low) (fun e => (own2_block (HMI.out.beh.rows c hcXn) i e).1))
                clear hHeld s0 s1 s2 s3 s4 s5 s6 s7 s8 s9 s10 y0 y1 y2 y3 y4 z0 z1 z2 z3 z4 kb3 kc3 t1 t2 t3 t4 t5 t6 t7 t8 t9 t10 kb kc c4 f4 hown1 hgrow hat r1 r2
                generalize w4.setCell ⟨bg, c, none⟩ (Value.slice (some ⟨gg, 0, none⟩) ((inF X k m c).length + 1) cap1) = w5 at r3 hx5 hT5 ho5 hB5 ⊢
                obtain ⟨_, q1, _, _, _, _, _⟩ := r3.cells
                have qa := int_cell r3.awt k hlt
                rw [show updN aw k m k = (m : Int) by unfold updN; rw [if_pos rfl]] at qa
                have fa := int_fz r3.awt k
                have hag := r3.agl
                have hkl : (k : Int) < X.length := by omega
                have R3 := hidm r3
                have HT5 := hidm hT5
                have HX5 := hidm hx5
                have HO5 := hidm ho5
                clear r3 hT5 hx5 ho5
                have hmL : (m : Int) ≤ 1010 := by omega
                go_wp2
                go_roundw
                case rel => exact ⟨m + 1, _, by omega, by go_num, (R3.out.set k ((m : Int) + 1)).1.cong (fun _ _ => rfl) (fun i _ => by
                    unfold updN
                    by_cases q : i = k
                    · rw [if_pos q, if_pos q]; push_cast; rfl
                    · rw [if_neg q, if_neg q, if_neg q]), HT5.out.kept (Kept.setCell (fun k _ => k = ag) _ _ _ (fun _ _ => rfl)) (fun _ s => by have s' : wc.heap.size = ag := s; omega) (fun g _ hg s => by have s' : g = ag := s; omega), (heap_set_other (show wr.heap.size ≠ ag by omega)).trans HX5.out, ownI_kept HO5.out (Kept.setCell (fun k _ => k = ag) _ _ _ (fun _ _ => rfl)) (fun g _ _ q s => by have := (ownI_block HO5.out g q).1; have s' : g = ag := s; omega), Bel.setCell hB5 (p := ⟨ag, k, none⟩) hag.1 _⟩
                case measure => simp [intOf]; omega
          · obtain rfl : m = (ofL X k).length := by omega
            have hM6 : LineM w.heap.size wc.heap.size wi b X hg hc ag bg bv2 (fun c => behL X c (k + 1)) rv (updN aw k ((ofL X k).length : Int)) R [] := hMi.cong (fun i _ => inF_end X k i) (fun _ _ => rfl)
            obtain ⟨z0, z1, z2, z3, z4⟩ := box_cells hxi
            have hxl := lt_of_heap hxi
            have hR0 := hR.out.len
            have hbT : ∀ ww, wi.heap.size ≤ ww → wc.heap.size ≤ ww := fun ww q => by omega
            have hA2 : ∀ j, j < X.length → updN aw k ((ofL X k).length : Int) j = if j < k + 1 then ((ofL X j).length : Int) else 0 := fun j hj => by
              unfold updN
              by_cases q : j = k
              · subst q; rw [if_pos rfl, if_pos (by omega)]
              · rw [if_neg q, hA.out j hj]
                by_cases s : j < k
                · rw [if_pos s, if_pos (by omega)]
                · rw [if_neg s, if_neg (by omega)]
            have hni := hBi.size
            have hwcw := hB0.size
            have HA2 := hidm hA2
            have HM6 := hidm hM6
            have HTI := hidm hTi
            clear hMi hM6 hA2 hoi HM HT
            by_cases hl0 : (ofL X k).length = 0
            · have hlb : (((ofL X k).length : Int) == 0) = true := by simp [hl0]
              go_wp2_with (first
                | (have q := m3; go_at_call 38; refine (may_any w.heap.size wc.heap.size b X hg hc ag bg bv2 _ rv _ R [] k hlt (by omega) w3 m3).mono ?_; rintro e w4 ⟨rfl, rv4, R4, m4, p4, k4⟩)
                | (go_at_call 37; refine (htad wi (by omega) HTI.out).mono ?_; rintro e w3 ⟨rfl, tv3, ht3, kt3⟩; have m3 := HM6.out.trl kt3 (fun o ho => by rw [HTI.out.box] at ho; cases ho; rfl); have q1 := m3.cells.2.1; have qa := int_cell m3.awt k hlt; rw [show updN aw k ((ofL X k).length : Int) k = ((ofL X k).length : Int) by unfold updN; rw [if_pos rfl]] at qa))
              have hne : wc.heap.size ≠ b := fun e => by
                have q := ht3.box
                rw [e, m3.rdy.box] at q; injection q with q; injection q with _ q _; exact absurd q (by decide)
              go_roundw
              case rel => exact ⟨k + 1, tv3, bv2, rv4, _, R4, by omega, by go_num, m4, HA2.out, ((hR.out.cons hlt (fun q => by omega)).perm p4).congr (fun j hj => by
                  have he : ofL X k = [] := List.eq_nil_of_length_eq_zero hl0
                  constructor
                  · rintro (q | q)
                    · exact ⟨by omega, q.2⟩
                    · subst q; exact ⟨by omega, he⟩
                  · rintro ⟨q1, q2⟩
                    by_cases q : j = k
                    · exact .inr q
                    · exact .inl ⟨by omega, q2⟩), ht3.kept k4 (fun _ s => by rcases s with s | s; exact hne s; exact absurd s.2 (by simp [tag])) (fun g _ _ s => by
                    rcases s with s | s
                    · omega
                    · exact absurd s.2 (by simp [tag])), (hBi.kept kt3 (fun i o s => by rcases s with s | s <;> omega)).kept k4 (fun i o s => by have := m3.rdy.low; rcases s with s | s; omega; exact s.1)⟩
              case measure => simp [intOf]; omega
            · have hlb : (((ofL X k).length : Int) == 0) = false := beq_eq_false_iff_ne.2 (by omega)
              go_wp2_with (go_at_call 37; refine (htad wi (by omega) HTI.out).mono ?_; rintro e w3 ⟨rfl, tv3, ht3, kt3⟩; have m3 := HM6.out.trl kt3 (fun o ho => by rw [HTI.out.box] at ho; cases ho; rfl); have q1 := m3.cells.2.1; have qa := int_cell m3.awt k hlt; rw [show updN aw k ((ofL X k).length : Int) k = ((ofL X k).length : Int) by unfold updN; rw [if_pos rfl]] at qa)
              go_roundw
              case rel => exact ⟨k + 1, tv3, bv2, rv, _, R, by omega, by go_num, m3, HA2.out, hR.out.congr (fun j hj => by
                  constructor
                  · rintro ⟨q1, q2⟩; exact ⟨by omega, q2⟩
                  · rintro ⟨q1, q2⟩
                    refine ⟨?_, q2⟩
                    by_cases q : j = k
                    · subst q; rw [q2] at hl0; simp at hl0
                    · omega), ht3, hBi.kept kt3 (fun i o s => by rcases s with s | s <;> omega)⟩
              case measure => simp [intOf]; omega
      · obtain rfl : k = X.length := by omega
        have hs := hB.size
        go_wp2
        go_ret
        exact ⟨b, hg, hc, ag, bg, bv, rv, aw, R, rfl, hM.hi_mono (by have := lt_of_heap hT.box; omega), LI.start (fun j hj => by rw [hA.out j hj, if_pos hj]) (hR.out.congr (fun j hj => ⟨fun q => q.2, fun q => ⟨hj, q⟩⟩)), hB⟩
end Go.Proofs.Ytpmofaajkhllpaa
