/-
  The law 'SeqTells' of delayslotlaw07 returns true at all numbers: numbers that are read and told are the input, brought round.
  Conditions: none.
-/
import Derived.Test.YtmgpfhmodjmcdaaRows
import Derived.WalkKit
import Derived.ProofKit
import Derived.OpenShut
import Derived.ShutString
import Derived.ChangeOld
import Derived.Below
import Derived.Carry
import Derived.Test.YtmgpfhmodjmcdaaSl8
import Derived.Test.YtmgpfhmodjmcdaaApp7
import Derived.Test.YtmgpfhmodjmcdaaAwk7
namespace Go.Proofs.Ytmgpfhmodjmcdaa.seqTells
open Go.ChangeShapes Go.WideShapes Go.ChangeAt Go.RowKit
open Go.ChangeMaps (open_string shut_string)
set_option linter.unusedVariables false

theorem laidOut : laidOutB Try.prog = true := by kernel_rfl
theorem own : ownKnob Try.prog.godebug = none := by kernel_rfl
theorem run_tells (V : List Int) (v iv : Value) (W : World) (hv : Code W v tellX) (hi : IntsC W iv (V.map (· + 4294967296))) (hV : ∀ x ∈ V, Wd x) (hl : V.length ≤ 100) :
    Calls Try.prog 16 #[v, .int .i64 0, iv, .int .i64 1000] W fun e W' => ∃ (ao : Option Addr) (ca : Nat) (am : Option Addr) (nm cm : Nat), e = .returned (.agg #[.int .i64 6, .int .i64 (3 * (V.length : Int) + 1), .slice ao V.length ca, .slice am nm cm]) ∧ Ints .i64 W' (.slice ao V.length ca) V ∧ Bel W W' := by
  refine (run_said tellX v iv 0 1000 (V.map (· + 4294967296)) W hv hi (by decide) (by omega)).mono ?_
  rintro e W' ⟨t, k, O, M, ao, ca, am, cm, hS, rfl, ho, _, hB, _⟩
  obtain ⟨rfl, rfl, rfl⟩ := said_tells hV hl hS
  refine ⟨ao, ca, am, M.length, cm, ?_, ho, hB⟩
  rw [show (3 * (O.length : Int) + 1) = ((3 * O.length + 1 : Nat) : Int) by omega]
theorem take_map_snoc (V : List Int) (j : Nat) (hj : j < V.length) : (V.take (j + 1)).map (· + 4294967296) = (V.take j).map (· + 4294967296) ++ [V[j]?.getD 0 + 4294967296] := by
  rw [List.take_succ_eq_append_getElem hj, List.map_append]
  simp [hj]
theorem gen1 {p : World → Prop} (w2 : World) (t n : Int) (o m : Value) (h : ∀ V2 : World, (V2.cell? ⟨w2.heap.size, 2, none⟩ = some o ∧ Bel w2 V2 ∧ w2.heap.size < V2.heap.size) → p V2) : p (w2.alloc (resB t n o m)) := by
  refine h _ ?_
  have hx := heap_new w2 (resB t n o m)
  exact ⟨(resB_cells hx).2.2.1, (Bel.refl w2).alloc _, lt_of_heap hx⟩

set_option maxRecDepth 20000 in
set_option maxHeartbeats 2000000 in
theorem walk (w : World) (y0 : Value) (X0 : List Int) (wy0 : Ints .i32 w y0 X0) (vy0 : ∀ x ∈ X0, (Lit.int .i32 x).wf = true) :
    Calls Try.prog 6 #[y0] w fun e w' => e = .returned (.bool true) ∧ Bel w w' := by
  obtain ⟨ao, cap, rfl, hc0⟩ := id wy0
  have hW : ∀ x ∈ X0, Wd x := fun x hx => by have := wf_i32 (vy0 x hx); exact this
  by_cases hl : X0.length ≤ 100
  · have hl' : ¬ ((100 : Int) < X0.length) := by omega
    obtain ⟨i0, hi, hz0, hz1, hz2⟩ := info_parts intInfo
    go_enter Try.func6, Try.ntmps6
    go_wp2_with fail
    go_loopw [3, 14] (fun l i wr => ∃ j : Nat, j ≤ X0.length ∧ i = .int .i64 j ∧ wr.ownsRow w.heap.size 3 1 l ((X0.take j).map (· + 4294967296)).length (((X0.take j).map (· + 4294967296)).map (Value.int .i64)) ∧ Bel w wr) (fun _ i _ => X0.length - (intOf i).toNat)
    case atStart => exact ⟨0, Nat.zero_le _, rfl, World.ownsRow_nil _ _ _ _, Bel.refl _⟩
    case round =>
      obtain ⟨j, hj, rfl, hrow, hB⟩ := hrel
      rename World => wr
      rename Value => l
      by_cases hlt : j < X0.length
      · obtain ⟨b, o, rfl, hb, hc⟩ := hc0 (by omega)
        have hcx := ((bcell hB).1 b (o + j) hb).trans (hc j hlt)
        have hin : (X0[j]?.getD 0) ∈ X0 := by simp [hlt]
        have hwx := hW _ hin
        have HS := hidm (take_map_snoc X0 j hlt)
        have hlen : ((X0.take j).map (· + 4294967296)).length = j := by simp; omega
        have hlt' : (j : Int) < X0.length := by omega
        have hbs := hB.size
        generalize X0[j]?.getD 0 = x at hcx hwx HS
        obtain ⟨hx1, hx2⟩ := hwx
        rw [hlen] at hrow
        have HC := hidm hc0
        clear hc hc0 hin
        go_wp2_with (first
          | (at_builtin; refine wpList_append_own _ rfl _ _ 23 rfl w.heap.size 3 i0 (.int .i64 0) 1 8 Try.underlying23 hi hz0 hz1 hz2 rfl (by decide) _ _ _ rfl (hrow.alloc _) ⟨wr.heap.size, 0, none⟩ 1 1 [.int .i64 (x + 4294967296)] rfl rfl (World.news_of_block (cs := #[.int .i64 (x + 4294967296)]) (t := 3) (fr := (0, 0)) (heap_alloc_new wr _)) (by intro u hu; simp at hu; subst hu; rfl) (by unfold maxLen; omega) (by omega) (by simp; omega) ?_; intro v1 w1 hown1 hgrow1 _))
        go_roundw
        case rel =>
          refine ⟨j + 1, by omega, by simp, ?_, (hB.alloc _).grown hgrow1 (fun k hk => (hrow.lt k hk).1)⟩
          rw [Hid.out HS, List.length_append, hlen, List.map_append]
          exact hown1
        case measure => simp [intOf]; omega
      · obtain rfl : j = X0.length := by omega
        rw [List.take_length] at hrow
        have el : (X0.map (· + 4294967296)).length = X0.length := by simp
        have HI := intsC_of_row hrow
        obtain ⟨al, cl, e, r⟩ := id HI
        rw [el] at e
        subst e
        have HJ := hidm HI
        clear r hrow el HI
        go_wp2_with (first
          | (go_at_call 16; refine (run_tells X0 _ _ _ (code_lit (X := tellX) (heap_new wr _) 3 3 rfl) ((Hid.out HJ).bel ((Bel.refl wr).alloc _)) hW hl).mono ?_; rintro e w2 ⟨ao1, ca1, am1, nm, cm1, rfl, ho, b2⟩))
        refine gen1 (p := fun V => Code.wp _ _ _ _ V) w2 _ _ _ _ ?_
        rintro V2 ⟨p1, hV, l1⟩
        have B2 := btrans (btrans (hB.alloc _) b2) hV
        have O1 := hidm (ho.bel hV)
        clear ho HJ
        go_loopw [53] (fun i wr2 => ∃ j : Nat, j ≤ X0.length ∧ i = .int .i64 j ∧ Bel V2 wr2) (fun i _ => X0.length - (intOf i).toNat)
        case atStart => exact ⟨0, Nat.zero_le _, rfl, Bel.refl _⟩
        case round =>
          obtain ⟨j, hj, rfl, hB3⟩ := hrel
          rename World => wr2
          have q1 := ((bcell hB3).1 _ _ l1).trans p1
          by_cases hlt : j < X0.length
          · obtain ⟨b, o, rfl, hb, hc⟩ := hc0 (by omega)
            obtain ⟨ax, cx, ex, hva⟩ := Hid.out O1
            injection ex with ex1 ex2 ex3
            obtain ⟨b', o', ez, hb', hcc⟩ := hva (by omega)
            have hcx := ((bcell (btrans B2 hB3)).1 b (o + j) hb).trans (hc j hlt)
            have hcy := ((bcell hB3).1 b' (o' + j) hb').trans (hcc j hlt)
            rw [ex1, ez] at q1
            clear hva hcc hc p1 ex1 ex2 ex3 ez
            have hin : (X0[j]?.getD 0) ∈ X0 := by simp [hlt]
            obtain ⟨hw1, hw2⟩ := hW _ hin
            generalize X0[j]?.getD 0 = z at hcx hcy hw1 hw2
            clear hin hc0
            go_wp2
            go_quiet (fail)
            go_wp2
            go_roundw
            case rel => exact ⟨j + 1, by omega, by simp, btrans hB3 (Bel.drewN _ _)⟩
            case measure => simp [intOf]; omega
          · clear p1 q1 hc0
            go_wp2_with (go_at_call 14; refine (awake_any _).mono ?_; rintro e w4 ⟨rfl, b4⟩)
            go_ret
            exact ⟨rfl, btrans (btrans B2 hB3) b4⟩
  · have hl' : (100 : Int) < X0.length := by omega
    go_enter Try.func6, Try.ntmps6
    go_wp2_with (go_at_call 14; refine (awake_any _).mono ?_; rintro e w4 ⟨rfl, b4⟩)
    go_ret
    exact ⟨rfl, b4⟩

set_option maxRecDepth 100000 in
theorem lifted (os : Os) (started : os.Started) (H : Type) (enc : TypeId × Value → H) :
    ReturnsInHanded {} Try.checked os 6 .any (Rows.seqTellsSpec.pre6 enc Try.prog Try.f6 Rows.seqTellsRow.domain false) (Rows.seqTellsSpec.post enc Try.prog Try.f6 false true false false) := by
  refine returnsInHanded_of_change (C := Try.checked) own started (by kernel_rfl) Try.func6
    (ChangeSpec.witness6 (enc := enc) (C := Try.checked) false ⟨#[], #[.slice none 0 0], []⟩ 8 (by kernel_rfl) (by kernel_rfl) (by kernel_rfl) (by kernel_rfl)) ?_
  intro W base args ds gs before hval0 hW hcnd _
  have hval : ∀ (j : Nat) t v, Try.f6.params[j]? = some t → args[j]? = some v → Value.okWide Try.prog W .any base t v := hval0
  have hW' := hW
  obtain ⟨p, q, hA0, hV, rfl, hfz, hnd⟩ := hW
  have hA : DataW.TrodAll enc Try.prog W 0 (fun _ => true) true Try.f6.params.toList args.toList ds p := hA0
  rw [Try.params6] at hA hval
  obtain ⟨v0, vs0, d0, ds0, p0, q0, hargs, rfl, rfl, h0, r0⟩ := trodAll_cons hA
  obtain ⟨rfl, rfl, rfl⟩ := trodAll_nil r0
  obtain rfl : args = #[v0] := by cases args; simp_all
  obtain ⟨rfl, rfl⟩ := trodVars_none hV
  have k0 := h0
  have lt0 : ∀ x ∈ p0, x.block < W.heap.size := by obtain ⟨m, hm⟩ := k0; exact DataW.trod_lt m _ _ _ hm
  obtain ⟨X0, wy0, vy0⟩ := open_intsK Try.underlying36 Try.underlying21 (by kernel_rfl) (hval 0 36 v0 rfl rfl) h0
  clear hA0 hval0
  refine (walk W v0 X0 wy0 vy0).mono fun e W' ⟨he, bel⟩ => ?_
  subst he
  exact ⟨_, rfl, _, _, _, [], _, [], hW', trodAll_mk1 (shut_bool Try.underlying4 _), (trodAll_cons_mk (Below.trod laidOut (by kernel_rfl) (of_decide_eq_true (by kernel_rfl)) k0 bel.out lt0) trodAll_mk0), rfl, bel.out.frame _, fun h => by cases h⟩

theorem over : Rows.seqTellsRow.holds Try.pinned (OpenSpec.ofChange Rows.seqTellsSpec) :=
  OpenClaim.holds_of_wide 6 Try.f6 rfl rfl rfl rfl rfl rfl rfl ⟨rfl, rfl, rfl, rfl, rfl⟩ rfl rfl rfl rfl rfl (by kernel_rfl) Try.func6 (by kernel_rfl)
    (of_decide_eq_true (by kernel_rfl)) (by unfold Func.isWrapper; first | (rw [if_pos (by decide +kernel)]; kernel_rfl) | (rw [if_neg (by decide +kernel)]; exact ⟨rfl, rfl⟩))
    (fun os started H enc _ => lifted os started H enc)

theorem proved : Rows.SeqTellsSaid :=
  over
#print axioms proved
end Go.Proofs.Ytmgpfhmodjmcdaa.seqTells
