/-
  The contract of placesBehind.
-/
import Derived.Test.YteldmfidcnlfkaaRp
import Derived.Test.YteldmfidcnlfkaaPb
import Derived.Test.YteldmfidcnlfkaaOm
namespace Go.Proofs.Yteldmfidcnlfkaa
set_option maxRecDepth 20000
open Go.ChangeShapes Go.WideShapes Go.ChangeAt Go.RowKit
set_option linter.unusedVariables false

/-- What placesBehind tells. -/
def Behind (w w' : World) (X : List Int) (m : Nat) (e : Ending) : Prop :=
  (e = .returned (.tuple #[.slice none 0 0, .bool false]) ∧ ¬ OrdOk X m) ∨ (∃ g f, e = .returned (.tuple #[.slice (some ⟨g, 0, none⟩) m m, .bool true]) ∧ w.heap.size ≤ g ∧ w'.heap[g]? = some (intB f m) ∧ OrdOk X m ∧ Fits X m X.length f)

set_option maxHeartbeats 1000000 in
theorem places_any (m : Nat) (Z : List Int) (v : Value) (W : World) (hm : m ≤ 1000) (hZ : Z.length ≤ 10000) (hv : Ints .i64 W v Z) :
    Calls Try.prog 25 #[.int .i64 m, v] W fun e W' => Behind W W' Z m e ∧ Bel W W' := by
  obtain ⟨ao, cap, rfl, hz⟩ := hv
  have HZ := hidm hz
  clear hz
  by_cases hs : Z.length < m
  · have HN := hidm (bad_short hs)
    go_enter Try.func25, Try.ntmps25
    go_wp2
    go_ret2
    exact ⟨.inl ⟨rfl, HN.out⟩, Bel.refl W⟩
  · have F0 := hidm (fits_zero Z m)
    have FN := hidm (fun k f => @fits_skip Z m k f)
    have FT := hidm (fun k f => @fits_step Z m k f)
    have B1 := hidm (fun k => @bad_range Z m k)
    have B2 := hidm (fun k f => @bad_twice Z m k f)
    have B3 := hidm (fun f => @fits_missing Z m f)
    have B4 := hidm (fun f => @fits_all Z m f)
    have hc0 : (W.alloc (.cells #[.int .i64 (-1)] 3)).cell? ⟨W.heap.size, 0, none⟩ = some (.int .i64 (-1)) := cell_of (heap_new W _) 0
    have hrep := fun c => repeat_all m hm W.heap.size c (-1) (W.alloc (.cells #[.int .i64 (-1)] 3)) hc0 (by simp)
    have BW : Bel W (W.alloc (.cells #[.int .i64 (-1)] 3)) := (Bel.refl W).alloc _
    have hsz : (W.alloc (.cells #[.int .i64 (-1)] 3)).heap.size = W.heap.size + 1 := World.size_alloc _ _
    clear hc0
    go_enter Try.func25, Try.ntmps25
    go_wp2_with (go_at_call 33; refine (hrep _).mono ?_; rintro e w1 ⟨g, rfl, hg, hrow, g1⟩)
    rw [hsz] at hg
    have BB := btrans BW g1
    clear g1 hrep BW hsz
    go_loopw [18] (fun i wr => ∃ (k : Nat) (f : Nat → Int), k ≤ Z.length ∧ i = .int .i64 k ∧ wr.heap[g]? = some (intB f m) ∧ Hid (Fits Z m k f) ∧ Bel W wr) (fun i _ => Z.length - (intOf i).toNat)
    case atStart => exact ⟨0, _, Nat.zero_le _, rfl, hrow, F0.out, BB⟩
    case round =>
      obtain ⟨k, f, hk, rfl, hrowk, hfit, hB⟩ := hrel
      rename World => wr
      clear hrow BB w1
      by_cases hlt : k < Z.length
      · obtain ⟨b, o, rfl, hb, hcell⟩ := HZ.out (by omega)
        have hc := ((bcell hB).1 b (o + k) hb).trans (hcell k hlt)
        have hcD : Z[k]?.getD 0 = Z.getD k 0 := rfl
        rw [hcD] at hc
        have S1 := hidm (FN.out k f hfit.out)
        have S2 := hidm (fun n e hn hf => FT.out k f hfit.out (n := n) e hn hlt hf)
        have S3 := hidm (B1.out k hlt)
        have S4 := hidm (fun n e hn hf => B2.out k f hfit.out hlt (n := n) e hn hf)
        clear FN FT B1 B2 B3 B4 hfit hcell HZ hcD F0
        generalize Z.getD k 0 = y at hc S1 S2 S3 S4
        by_cases e1 : y = -1
        · have e1' : (y == -1) = true := by simp [e1]
          have HH := hidm (S1.out e1)
          clear S1 S2 S3 S4 e1
          go_wp2
          go_roundw
          case rel => exact ⟨k + 1, f, by omega, by go_num, hrowk, HH.out, hB⟩
          case measure => simp [intOf]; omega
        · have e1' : (y == -1) = false := beq_eq_false_iff_ne.2 e1
          by_cases e2 : y < 0
          · have HH := hidm (S3.out e1 (.inl e2))
            clear S1 S2 S3 S4 e1
            go_wp2
            go_ret2
            exact ⟨.inl ⟨rfl, HH.out⟩, hB⟩
          · by_cases e3 : (m : Int) ≤ y
            · have HH := hidm (S3.out e1 (.inr e3))
              clear S1 S2 S3 S4 e1
              go_wp2
              go_ret2
              exact ⟨.inl ⟨rfl, HH.out⟩, hB⟩
            · obtain ⟨n, rfl⟩ : ∃ n : Nat, y = n := ⟨y.toNat, by omega⟩
              have hn : n < m := by omega
              have hni : (n : Int) < m := by omega
              have cn := int_cell hrowk n hn
              have fn := int_fz hrowk n
              by_cases e4 : f n = -1
              · have e4' : ((-1 : Int) != -1) = false := rfl
                have HH := hidm (S2.out n rfl hn e4)
                have HR := hidm (int_set hrowk n ((Z.length : Int) - 1 - k))
                rw [e4] at cn
                have HK : Bel W (wr.setCell ⟨g, n, none⟩ (.int .i64 ((Z.length : Int) - 1 - k))) := hB.setCell (by simp; omega) _
                have HBK := hidm HK
                clear S1 S2 S3 S4 e1 e4 HK
                go_wp2
                go_roundw
                case rel => exact ⟨k + 1, _, by omega, by go_num, HR.out, HH.out, HBK.out⟩
                case measure => simp [intOf]; omega
              · have e4' : (f n != -1) = true := by simp [e4]
                have HH := hidm (S4.out n rfl hn e4)
                clear S1 S2 S3 S4 e1 e4
                go_wp2
                go_ret2
                exact ⟨.inl ⟨rfl, HH.out⟩, hB⟩
      · obtain rfl : k = Z.length := by omega
        have hcon := fun c => contains_any f m (-1) g c wr (by omega) hrowk
        have HI := hidm (has_iff f m (-1))
        have HF := hidm hfit.out
        have HRW := hidm hrowk
        clear FN FT B1 B2 F0 HZ hfit
        cases hh : has_ f m (-1) with
        | true =>
          rw [hh] at hcon
          have HH : Hid (¬ OrdOk Z m) := by
            obtain ⟨i, hi, e⟩ := HI.out.1 hh
            exact B3.out f HF.out hi e
          clear HI B3 B4 hh
          go_wp2_with (go_at_call 34; refine (hcon _).mono ?_; rintro e w2 ⟨rfl, g2⟩)
          go_ret2
          exact ⟨.inl ⟨rfl, HH.out⟩, btrans hB g2⟩
        | false =>
          rw [hh] at hcon
          have HH : Hid (OrdOk Z m) := B4.out f HF.out fun j hj e => by
            have := HI.out.2 ⟨j, hj, e⟩
            rw [hh] at this
            cases this
          clear HI B3 B4 hh
          go_wp2_with (go_at_call 34; refine (hcon _).mono ?_; rintro e w2 ⟨rfl, g2⟩)
          go_ret2
          exact ⟨.inr ⟨g, f, rfl, by omega, bel_heap g2 HRW.out, HH.out, HF.out⟩, btrans hB g2⟩
theorem places_one (m : Nat) (Z : List Int) (v : Value) (W : World) (hm : m ≤ 1000) (hZ : Z.length ≤ 10000) (hv : Ints .i64 W v Z) :
    Calls Try.prog 25 #[.int .i64 m, v] W fun e W' => ∃ u b, e = .returned (.tuple #[u, .bool b]) ∧ ((u = .slice none 0 0 ∧ b = false ∧ ¬ OrdOk Z m) ∨ (∃ g f, u = .slice (some ⟨g, 0, none⟩) m m ∧ b = true ∧ W.heap.size ≤ g ∧ W'.heap[g]? = some (intB f m) ∧ OrdOk Z m ∧ Fits Z m Z.length f)) ∧ Bel W W' := by
  refine (places_any m Z v W hm hZ hv).mono ?_
  rintro e W' ⟨⟨rfl, h⟩ | ⟨g, f, rfl, h⟩, hB⟩
  · exact ⟨_, _, rfl, .inl ⟨rfl, rfl, h⟩, hB⟩
  · exact ⟨_, _, rfl, .inr ⟨g, f, rfl, rfl, h⟩, hB⟩
end Go.Proofs.Yteldmfidcnlfkaa
