/-
  The contract of add.
-/
import Derived.Test.YtpmofaajkhllpaaAk
namespace Go.Proofs.Ytpmofaajkhllpaa
set_option maxRecDepth 20000
set_option linter.unusedVariables false
open Go.ChangeShapes Go.WideShapes Go.ChangeAt Go.RowKit

/-- An instruction as a value. -/
def Ins.val (x : Ins) : Value := .agg #[.int .i64 x.o, .int .i64 x.a, .int .i64 x.b, .int .i64 x.c, .int .i64 x.i]
theorem ret_intA {k : IntKind} {a b : Int} (h : a = b) : Ending.returned (.int k a) = .returned (.int k b) := by rw [h]
theorem kept_bel {S : Nat → Obj → Prop} {a b c : World} (h : Kept S a b) (g : Bel b c) : Kept S a c := h.trans (Kept.of_bel g)
/-- A block that a call does not turn. -/
theorem kept_at {b : Nat} {W W' : World} (h : Kept (fun k _ => k = b) W W') {k : Nat} (hk : k < W.heap.size) (hne : k ≠ b) (o : Nat) : W'.cell? ⟨k, o, none⟩ = W.cell? ⟨k, o, none⟩ := by
  have e := Array.getElem?_eq_getElem hk
  exact World.cell?_of_block ((h.block k _ e hne).trans e.symm)
theorem bel_heap {W W' : World} (h : Bel W W') {k : Nat} {o : Obj} (hk : W.heap[k]? = some o) : W'.heap[k]? = some o := (h.out.block k (lt_of_heap hk)).trans hk

set_option maxHeartbeats 2000000 in
theorem add_any (x : Ins) (h : Int) (b : Nat) (L : List (Ins × Int)) (W : World) (h0 : 0 ≤ h) (h1 : h ≤ 1000000) (hb : W.heap[b]? = some (askL L)) :
    Calls Try.prog 48 #[.pointer (some ⟨b, 0, none⟩), x.val, .int .i64 h] W fun e W' => e = .returned (.tuple #[]) ∧ W'.heap[b]? = some (askL ((x, h) :: L)) ∧ Kept (fun k _ => k = b) W W' := by
  have hlt := lt_of_heap hb
  have HS := hidm (ask_step x h L)
  unfold askL at hb
  generalize rN L = r at hb HS
  generalize wN L = w at hb HS
  generalize aN L = a at hb HS
  have hlen := rdl_len x
  have HF := hidm (fun k hk => rStep_snoc r x.rdl k h hk)
  have HB := hidm (rdl_bd x)
  have HT : Hid (rStep r (x.rdl.take x.rdl.length) h = rStep r x.rdl h) := by rw [List.take_length]; exact rfl
  have HZ : Hid (rStep r (x.rdl.take 0) h = r) := by rw [List.take_zero]; exact rStep_nil r h
  have hrow0 : ∀ (w' : World), Calls Try.prog 49 #[x.val] w' fun e w2 => ∃ v, e = .returned v ∧ w2.ownsRow w'.heap.size 3 1 v x.rdl.length (x.rdl.map (Value.int .i64)) ∧ Bel w' w2 := fun w' => reads_any x.o x.a x.b x.c x.i w'
  unfold Ins.val at hrow0 ⊢
  go_enter Try.func48, Try.ntmps48
  have k0 : Kept (fun k _ => k = b) W (W.alloc (Obj.cells #[.int .i64 x.o, .int .i64 x.a, .int .i64 x.b, .int .i64 x.c, .int .i64 x.i] 30)) := Kept.alloc _ _ _
  go_wp2_with (go_at_call 49; refine (hrow0 _).mono ?_; rintro e w1 ⟨v, rfl, hrow, g1⟩; obtain ⟨ao, cap, rfl, hv⟩ := ints_view hrow; have K1 := kept_bel k0 g1; have hb1 := bel_heap g1 (heap_old hb); have hx1 := bel_heap g1 (heap_new W _); have hz := g1.size; rw [World.size_alloc] at hz hv; clear hrow g1 k0 hrow0)
  go_loopw [15] (fun i wr => ∃ k : Nat, k ≤ x.rdl.length ∧ i = .int .i64 k ∧ wr.heap[b]? = some (askB (rStep r (x.rdl.take k) h) w a) ∧ Kept (fun k _ => k = b) w1 wr) (fun i _ => x.rdl.length - (intOf i).toNat)
  case atStart => exact ⟨0, Nat.zero_le _, rfl, by rw [HZ.out]; exact hb1, Kept.refl _ _⟩
  case round =>
    obtain ⟨k, hk, rfl, hbk, K2⟩ := hrel
    rename World => wr
    have hsz := K2.size
    by_cases hlt2 : k < x.rdl.length
    · obtain ⟨g, rfl, hg0, hg1, hg2, hg3, hcell⟩ := hv (by omega)
      obtain ⟨n, hn, hn32⟩ := HB.out k hlt2
      have hc := hcell k hlt2
      have hF := HF.out k hlt2
      rw [hn] at hc hF
      have HFk := hidm hF
      have hcr : wr.cell? ⟨g, k, none⟩ = some (.int .i64 n) := (kept_at K2 hg1 (by omega) k).trans hc
      generalize rStep r (x.rdl.take k) h = f at hbk HFk
      have c1 := ask_r hbk n hn32
      have f1 := ask_fz hbk n
      have HN := hidm (ask_setr hbk n hn32 (max (f n) (h + 1)))
      have hn' : (n : Int) < 32 := by omega
      have hne : ¬ b = g := by omega
      clear hcell hc hF hn HF HB hv hk HS HT HZ hb1 hx1 hb hbk
      go_wp2
      go_region
      go_wp2
      go_roundw
      case rel => exact ⟨k + 1, by omega, by go_num, by rw [HFk.out]; exact HN.out, (K2.trans (Kept.setCell _ _ _ _ (fun _ _ => rfl))).trans (Kept.drew _ _)⟩
      case measure => simp [intOf]; omega
    · obtain rfl : k = x.rdl.length := by omega
      rw [HT.out] at hbk
      have p0 := (kept_at K2 (k := W.heap.size) (by omega) (by omega) 0).trans (cell_of hx1 0)
      have p1 := (kept_at K2 (k := W.heap.size) (by omega) (by omega) 1).trans (cell_of hx1 1)
      have p2 := (kept_at K2 (k := W.heap.size) (by omega) (by omega) 2).trans (cell_of hx1 2)
      have p3 := (kept_at K2 (k := W.heap.size) (by omega) (by omega) 3).trans (cell_of hx1 3)
      have p4 := (kept_at K2 (k := W.heap.size) (by omega) (by omega) 4).trans (cell_of hx1 4)
      have KK := K1.trans K2
      have hws : W.heap.size < wr.heap.size := by omega
      have hbw : b < wr.heap.size := by omega
      generalize rStep r x.rdl h = f at hbk HS
      clear hv HT HZ HF HB hb hb1 hx1 K1 K2 hsz hz hk hlt2 hlen
      have tail : ∀ (ww : World), Calls Try.prog 50 #[x.val] ww fun e w2 => e = .returned (.int .i64 x.wr) ∧ Bel ww w2 := fun ww => writes_any x.o x.a x.b x.c x.i ww
      have tact : ∀ (ww : World), Calls Try.prog 51 #[x.val] ww fun e w2 => e = .returned (.bool x.act) ∧ Bel ww w2 := fun ww => acts_any x.o x.a x.b x.c x.i ww
      unfold Ins.val at tail tact
      by_cases hw : x.wr = 0
      · have e1 : wStep x w h = w := by unfold wStep; rw [if_pos hw]
        rw [e1] at HS
        rw [hw] at tail
        clear e1 hw
        cases ha : x.act with
        | false =>
          have e2 : aStep x a h = a := by unfold aStep; rw [ha]; rfl
          rw [e2] at HS
          rw [ha] at tact
          clear e2 ha
          go_wp2_with (first
            | (have q := g2; go_at_call 51; refine (tact _).mono ?_; rintro e w3 ⟨rfl, g3⟩)
            | (go_at_call 50; refine (tail _).mono ?_; rintro e w2 ⟨rfl, g2⟩; obtain ⟨hc, hf⟩ := bcell g2))
          go_end0
          exact ⟨rfl, (bel_heap (btrans g2 g3) hbk).trans (by rw [HS.out]), kept_bel KK (btrans g2 g3)⟩
        | true =>
          have e2 : aStep x a h = max a (h + 1) := by unfold aStep; rw [ha]; rfl
          rw [e2] at HS
          rw [ha] at tact
          clear e2 ha
          go_wp2_with (first
            | (have q := g2; go_at_call 51; refine (tact _).mono ?_; rintro e w3 ⟨rfl, g3⟩; have c9 := ask_a (bel_heap g3 (bel_heap g2 hbk)); have f9 := ask_fz (bel_heap g3 (bel_heap g2 hbk)) 64; have HN := hidm (ask_seta (bel_heap g3 (bel_heap g2 hbk)) (max a (h + 1))))
            | (go_at_call 50; refine (tail _).mono ?_; rintro e w2 ⟨rfl, g2⟩; obtain ⟨hc, hf⟩ := bcell g2))
          go_end0
          exact ⟨rfl, HN.out.trans (by rw [HS.out]), (kept_bel KK (btrans g2 g3)).trans (Kept.setCell _ _ _ _ (fun _ _ => rfl))⟩
      · obtain ⟨n, hn⟩ : ∃ n : Nat, x.wr = n := ⟨x.wr.toNat, by have := ins_bd x; omega⟩
        have hn32 : n < 32 := by have := ins_bd x; omega
        have hn0 : ¬ (n : Int) = 0 := by omega
        have e1 : wStep x w h = upd w n (max (w n) (h + 1)) := by unfold wStep; rw [if_neg hw, hn]
        rw [e1] at HS
        rw [hn] at tail
        clear e1 hw hn
        have hnn : ((n : Int) != 0) = true := by simp; omega
        have hn32' : (n : Int) < 32 := by omega
        have hsx : W.heap.size ≠ b := by omega
        go_wp2_with (go_at_call 50; refine (tail _).mono ?_; rintro e w2 ⟨rfl, g2⟩; obtain ⟨hc, hf⟩ := bcell g2; have hz2 := g2.size; have hb2 := bel_heap g2 hbk; have c8 := ask_w hbk n hn32; have f8 := ask_fz hbk (32 + n); have HN := hidm (ask_setw hb2 n hn32 (max (w n) (h + 1))))
        go_region
        have q0 : (w2.setCell ⟨b, 32 + n, none⟩ (Value.int .i64 (max (w n) (h + 1)))).drew.heap[b]? = some (askB f (upd w n (max (w n) (h + 1))) a) := HN.out
        have q1 : Kept (fun k _ => k = b) w2 (w2.setCell ⟨b, 32 + n, none⟩ (Value.int .i64 (max (w n) (h + 1)))).drew := (Kept.setCell _ _ _ _ (fun _ _ => rfl)).trans (Kept.drew _ _)
        have q2 : (w2.setCell ⟨b, 32 + n, none⟩ (Value.int .i64 (max (w n) (h + 1)))).drew.heap.size = w2.heap.size := size_set _ _ _
        rw [← hc _ _ hws, ← kept_at q1 (by omega) hsx] at p0 p1 p2 p3 p4
        clear HN c8 f8 hb2 hc hf
        generalize (w2.setCell ⟨b, 32 + n, none⟩ (Value.int .i64 (max (w n) (h + 1)))).drew = w4 at q0 q1 q2 p0 p1 p2 p3 p4 ⊢
        have KK2 := (kept_bel KK g2).trans q1
        cases ha : x.act with
        | false =>
          have e2 : aStep x a h = a := by unfold aStep; rw [ha]; rfl
          rw [e2] at HS
          rw [ha] at tact
          clear e2 ha
          go_wp2_with (go_at_call 51; refine (tact _).mono ?_; rintro e w3 ⟨rfl, g3⟩)
          go_end0
          exact ⟨rfl, (bel_heap g3 q0).trans (by rw [HS.out]), kept_bel KK2 g3⟩
        | true =>
          have e2 : aStep x a h = max a (h + 1) := by unfold aStep; rw [ha]; rfl
          rw [e2] at HS
          rw [ha] at tact
          clear e2 ha
          go_wp2_with (go_at_call 51; refine (tact _).mono ?_; rintro e w3 ⟨rfl, g3⟩; have c9 := ask_a (bel_heap g3 q0); have f9 := ask_fz (bel_heap g3 q0) 64; have HN := hidm (ask_seta (bel_heap g3 q0) (max a (h + 1))))
          go_end0
          exact ⟨rfl, HN.out.trans (by rw [HS.out]), (kept_bel KK2 g3).trans (Kept.setCell _ _ _ _ (fun _ _ => rfl))⟩
end Go.Proofs.Ytpmofaajkhllpaa
