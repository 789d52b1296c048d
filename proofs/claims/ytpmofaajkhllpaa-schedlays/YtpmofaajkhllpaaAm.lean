/-
  The contract of of; of Far.
-/
import Derived.Test.YtpmofaajkhllpaaAl
namespace Go.Proofs.Ytpmofaajkhllpaa
set_option maxRecDepth 20000
set_option linter.unusedVariables false
open Go.ChangeShapes Go.WideShapes Go.ChangeAt Go.RowKit

/-- The greatest of what is written, once so many have been looked at. -/
def wMax (f : Int → Int) (m : Int) (l : List Int) : Int := l.foldl (fun m n => max m (f n)) m
theorem wMax_snoc (f : Int → Int) (m : Int) (l : List Int) (k : Nat) (hk : k < l.length) : wMax f m (l.take (k + 1)) = max (wMax f m (l.take k)) (f (l.getD k 0)) := by
  have e : l.take (k + 1) = l.take k ++ [l.getD k 0] := by rw [List.take_succ_eq_append_getElem hk]; simp [List.getD, hk]
  rw [e]
  unfold wMax
  rw [List.foldl_append]
  rfl
theorem wMax_all (x : Ins) {m : Int} (hm : 0 ≤ m) {L : List (Ins × Int)} (hL : Good m L) : wMax (wN L) (of2 x L) x.rdl = of3 x L := by
  have h0 := wN_zero L
  have h1 : 0 ≤ of2 x L := by
    have := (wN_bd hm hL x.wr).1
    unfold of2
    omega
  unfold of3
  rcases rdl_forms x with ⟨h, r1, r2⟩ | ⟨p, h, h2, h3, r1, r2, r3⟩ | ⟨p, q, h, h2, h3, h4, r⟩
  · rw [h, r1, r2, h0]
    simp only [wMax, List.foldl_nil]
    omega
  · rw [h]
    simp only [wMax, List.foldl_cons, List.foldl_nil]
    rcases r1 with r1 | r1 <;> rcases r2 with r2 | r2 <;> rw [r1, r2] <;> (try rw [h0]) <;> omega
  · rw [h]
    simp only [wMax, List.foldl_cons, List.foldl_nil]
    rcases r with ⟨r1, r2⟩ | ⟨r1, r2⟩ <;> rw [r1, r2] <;> omega
theorem ofM_bd {m : Int} (hm : 0 ≤ m) (x : Ins) {L : List (Ins × Int)} (hL : Good m L) : 0 ≤ ofM x L ∧ ofM x L ≤ m + 2 := by
  rw [of_most hm x hL]
  exact most_bd hm x hL

theorem box_cells {W : World} {k : Nat} {t : TypeId} {o a b c i : Int} (h : W.heap[k]? = some (.cells #[.int .i64 o, .int .i64 a, .int .i64 b, .int .i64 c, .int .i64 i] t)) : W.cell? ⟨k, 0, none⟩ = some (.int .i64 o) ∧ W.cell? ⟨k, 1, none⟩ = some (.int .i64 a) ∧ W.cell? ⟨k, 2, none⟩ = some (.int .i64 b) ∧ W.cell? ⟨k, 3, none⟩ = some (.int .i64 c) ∧ W.cell? ⟨k, 4, none⟩ = some (.int .i64 i) :=
  ⟨cell_of h 0, cell_of h 1, cell_of h 2, cell_of h 3, cell_of h 4⟩

set_option maxHeartbeats 2000000 in
theorem of_any (x : Ins) (b : Nat) (L : List (Ins × Int)) (W : World) (hL : Good 1000000 L) (hb : W.heap[b]? = some (askL L)) :
    Calls Try.prog 47 #[.pointer (some ⟨b, 0, none⟩), x.val] W fun e W' => e = .returned (.int .i64 (ofM x L)) ∧ Bel W W' := by
  have hlt := lt_of_heap hb
  have HA := hidm (wMax_all x (by omega) hL)
  obtain ⟨n, hn⟩ : ∃ n : Nat, x.wr = n := ⟨x.wr.toNat, by have := ins_bd x; omega⟩
  have hn32 : n < 32 := by have := ins_bd x; omega
  have hn32' : (n : Int) < 32 := by omega
  have r0 := rN_bd (by omega) hL n
  have w0 := wN_bd (by omega) hL n
  have H1 : Hid (of1 x L = if 0 < rN L n ∧ x.late = true then rN L n + 1 else rN L n) := by rw [← hn]; exact rfl
  have H2 : Hid (of2 x L = max (of1 x L) (wN L n)) := by rw [← hn]; exact rfl
  have HM : Hid (ofM x L = if x.act = true then max (of3 x L) (aN L) else of3 x L) := rfl
  unfold askL at hb
  generalize rN L = r at hb H1 r0
  generalize wN L = w at hb HA H2 w0
  generalize aN L = a at hb HM
  have hlen := rdl_len x
  have HF := hidm (fun m k hk => wMax_snoc w m x.rdl k hk)
  have HB := hidm (rdl_bd x)
  have HT : ∀ m, Hid (wMax w m (x.rdl.take x.rdl.length) = wMax w m x.rdl) := by intro m; rw [List.take_length]; exact rfl
  have hrow0 : ∀ (w' : World), Calls Try.prog 49 #[x.val] w' fun e w2 => ∃ v, e = .returned v ∧ w2.ownsRow w'.heap.size 3 1 v x.rdl.length (x.rdl.map (Value.int .i64)) ∧ Bel w' w2 := fun w' => reads_any x.o x.a x.b x.c x.i w'
  have twr : ∀ (ww : World), Calls Try.prog 50 #[x.val] ww fun e w2 => e = .returned (.int .i64 x.wr) ∧ Bel ww w2 := fun ww => writes_any x.o x.a x.b x.c x.i ww
  have tact : ∀ (ww : World), Calls Try.prog 51 #[x.val] ww fun e w2 => e = .returned (.bool x.act) ∧ Bel ww w2 := fun ww => acts_any x.o x.a x.b x.c x.i ww
  have tlate : ∀ (ww : World), Calls Try.prog 27 #[x.val] ww fun e w2 => e = .returned (.bool x.late) ∧ Bel ww w2 := fun ww => late_any x.o x.a x.b x.c x.i ww
  rw [hn] at twr
  unfold Ins.val at hrow0 twr tact tlate ⊢
  have B0 := (Bel.refl W).alloc (Obj.cells #[.int .i64 x.o, .int .i64 x.a, .int .i64 x.b, .int .i64 x.c, .int .i64 x.i] 30)
  have hx0 := heap_new W (Obj.cells #[.int .i64 x.o, .int .i64 x.a, .int .i64 x.b, .int .i64 x.c, .int .i64 x.i] 30)
  have hz0 : W.heap.size < (W.alloc (Obj.cells #[.int .i64 x.o, .int .i64 x.a, .int .i64 x.b, .int .i64 x.c, .int .i64 x.i] 30)).heap.size := by simp
  generalize hof1 : of1 x L = q1 at H1 H2
  generalize hof2 : of2 x L = q2 at H2 HA
  clear hof1 hof2
  have three : (0 < r n ∧ x.late = true ∧ q1 = r n + 1) ∨ (0 < r n ∧ x.late = false ∧ q1 = r n) ∨ (¬ 0 < r n ∧ x.late = x.late ∧ q1 = r n) := by
    rw [H1.out]
    by_cases h1 : 0 < r n
    · cases h2 : x.late
      · exact .inr (.inl ⟨h1, rfl, by simp⟩)
      · exact .inl ⟨h1, rfl, by simp [h1]⟩
    · exact .inr (.inr ⟨h1, rfl, by simp [h1]⟩)
  clear H1
  rcases three with ⟨hr, hl, e1⟩ | ⟨hr, hl, e1⟩ | ⟨hr, hl, e1⟩
  all_goals
    rw [hl] at tlate
    rw [e1] at H2
    clear hl e1 q1
    go_enter Try.func47, Try.ntmps47
    go_wp2_with (first
      | (go_at_call 50; refine (twr _).mono ?_; rintro e w1 ⟨rfl, g1⟩; have hb1 := bel_heap g1 (heap_old hb); have hx1 := bel_heap g1 hx0; have c1 := ask_r hb1 n hn32; have c2 := ask_w hb1 n hn32; obtain ⟨p0, p1, p2, p3, p4⟩ := box_cells hx1)
      | (go_at_call 27; refine (tlate _).mono ?_; rintro e w2 ⟨rfl, g2⟩; have hb2 := bel_heap g2 hb1; have hx2 := bel_heap g2 hx1; have c2' := ask_w hb2 n hn32; obtain ⟨s0, s1, s2, s3, s4⟩ := box_cells hx2)
      | (go_at_call 49; refine (hrow0 _).mono ?_; rintro e w3 ⟨v, rfl, hrow, g3⟩; obtain ⟨ao, cap, rfl, hv⟩ := ints_view hrow;
          obtain ⟨hb3, hx3, G3, hz3⟩ : w3.heap[b]? = some (askB r w a) ∧ w3.heap[W.heap.size]? = some (Obj.cells #[.int .i64 x.o, .int .i64 x.a, .int .i64 x.b, .int .i64 x.c, .int .i64 x.i] 30) ∧ Bel W w3 ∧ (0 < x.rdl.length → ∃ g, ao = some ⟨g, 0, none⟩ ∧ W.heap.size < g ∧ g < w3.heap.size ∧ x.rdl.length ≤ cap ∧ cap ≤ maxLen ∧ ∀ j, j < x.rdl.length → w3.cell? ⟨g, j, none⟩ = some (.int .i64 (x.rdl.getD j 0))) := (by first
            | exact ⟨bel_heap g3 hb2, bel_heap g3 hx2, btrans (btrans (btrans B0 g1) g2) g3, fun hp => (let ⟨g, q1, q2, q3⟩ := hv hp; ⟨g, q1, by have := g1.size; have := g2.size; omega, q3⟩)⟩
            | exact ⟨bel_heap g3 hb1, bel_heap g3 hx1, btrans (btrans B0 g1) g3, fun hp => (let ⟨g, q1, q2, q3⟩ := hv hp; ⟨g, q1, by have := g1.size; omega, q3⟩)⟩);
          clear hv hrow))
    clear hb hx0
    go_loopw [7, 37] (fun m i wr => ∃ k : Nat, k ≤ x.rdl.length ∧ i = .int .i64 k ∧ m = .int .i64 (wMax w q2 (x.rdl.take k)) ∧ Bel w3 wr) (fun _ i _ => x.rdl.length - (intOf i).toNat)
    case atStart => exact ⟨0, Nat.zero_le _, rfl, by rw [List.take_zero, H2.out]; rfl, Bel.refl _⟩
    case round =>
      obtain ⟨k, hk, rfl, rfl, K2⟩ := hrel
      rename World => wr
      have hsz := K2.size
      by_cases hlt2 : k < x.rdl.length
      · obtain ⟨g, rfl, hg0, hg1, hg2, hg3, hcell⟩ := hz3 (by omega)
        obtain ⟨z, hzz, hz32⟩ := HB.out k hlt2
        have hc := hcell k hlt2
        have hF := HF.out q2 k hlt2
        rw [hzz] at hc hF
        have HFk := hidm hF
        have hcr : wr.cell? ⟨g, k, none⟩ = some (.int .i64 z) := ((bcell K2).1 _ _ hg1).trans hc
        generalize wMax w q2 (x.rdl.take k) = m at HFk
        have c5 := ask_w (bel_heap K2 hb3) z hz32
        have hz32' : (z : Int) < 32 := by omega
        clear hcell hc hF hzz HF HB hz3 hk HT hb3 hx3
        go_wp2
        go_roundw
        case rel => exact ⟨k + 1, by omega, by go_num, by rw [HFk.out], K2⟩
        case measure => simp [intOf]; omega
      · obtain rfl : k = x.rdl.length := by omega
        rw [(HT _).out, HA.out]
        obtain ⟨t0, t1, t2, t3, t4⟩ := box_cells (bel_heap K2 hx3)
        have hbk := bel_heap K2 hb3
        clear HF HB hz3 HT hb3 hx3 hlt2 hk
        generalize of3 x L = y at HM
        cases ha : x.act with
        | false =>
          rw [ha] at tact
          have e2 : ofM x L = y := by rw [HM.out, ha]; rfl
          have HE := hidm e2
          clear e2 HM ha
          go_wp2_with (go_at_call 51; refine (tact _).mono ?_; rintro e w5 ⟨rfl, g5⟩)
          go_ret
          exact ⟨ret_intA HE.out.symm, btrans G3 (btrans K2 g5)⟩
        | true =>
          rw [ha] at tact
          have e2 : ofM x L = max y a := by rw [HM.out, ha]; rfl
          have HE := hidm e2
          clear e2 HM ha
          go_wp2_with (go_at_call 51; refine (tact _).mono ?_; rintro e w5 ⟨rfl, g5⟩; have c9 := ask_a (bel_heap g5 hbk))
          go_ret
          exact ⟨ret_intA HE.out.symm, btrans G3 (btrans K2 g5)⟩
/-- A slice with nothing in it: what a new 'asked' holds. -/
theorem askL_nil : askL [] = askB (fun _ => 0) (fun _ => 0) 0 := rfl
theorem alloc_ask (w : World) : (Instr.alloc 68 true (.tuple #[])).run Try.prog w = .ok (.pointer (some ⟨w.heap.size, 0, none⟩)) (w.alloc (askL [])) := by kernel_rfl
section
variable {ops : Array Oper} {rest : List Oper} {op : Oper} {a : Act} {w : World} {Q : Exit → Act → World → Prop}
theorem wpList_alloc_ask (hgd : op.guard = none) (ho : op.op = .alloc 68)
    (h : wpList Try.prog ops Q rest (a.put op.dst (.pointer (some ⟨w.heap.size, 0, none⟩))) (w.alloc (askL []))) : wpList Try.prog ops Q (op :: rest) a w :=
  wpList_plain hgd fun _ hK => by
    unfold Oper.wp execOp
    simp only [ho, alloc_ask w, Sem.run_bind, Sem.run_pure, Result.andThen_ok]
    exact hK _ _ h
end
theorem far_of (x y : Ins) : ofM x [(y, 0)] = farI x y := by
  have hL : Good 0 [(y, (0 : Int))] := by
    intro p hp
    simp at hp
    subst hp
    simp
  rw [of_most (Int.le_refl 0) x hL]
  have := farI_bd x y
  simp only [most]
  split <;> omega
end Go.Proofs.Ytpmofaajkhllpaa
