/-
  The law 'BagTwice' of delayslotlaw05 returns true at every input: what is added twice is there once; texts go as numbers do.
  Conditions: none.
-/
import Derived.Test.YtfgejepjiifmlaaRows
import Derived.WalkKit
import Derived.ProofKit
import Derived.OpenShut
import Derived.ShutString
import Derived.ChangeOld
import Derived.Below
import Derived.Carry
import Derived.Test.YtfgejepjiifmlaaMix5
import Derived.Test.YtfgejepjiifmlaaTwo5
import Derived.Laws.BytesString
import Derived.Deep.RegionHeld3
namespace Go.Proofs.Ytfgejepjiifmlaa.bagTwice
open Go.ChangeShapes Go.WideShapes Go.ChangeAt Go.RowKit
open Go.ChangeMaps (open_string shut_string)
set_option linter.unusedVariables false

theorem laidOut : laidOutB Try.prog = true := by kernel_rfl
theorem own : ownKnob Try.prog.godebug = none := by kernel_rfl
open Go.Maps
/-- The text of one byte. -/
def b1 (z : Int) : ByteArray := ByteArray.empty.push (UInt8.ofNat z.toNat)
theorem b1_size (z : Int) : (b1 z).size ≤ maxLen := by
  show 1 ≤ maxLen
  unfold maxLen
  omega
theorem b1_inj {x y : Int} (hx : 0 ≤ x ∧ x ≤ 255) (hy : 0 ≤ y ∧ y ≤ 255) (h : b1 x = b1 y) : x = y := by
  have e : (b1 x).data.toList = (b1 y).data.toList := by rw [h]
  have e1 : [UInt8.ofNat x.toNat] = [UInt8.ofNat y.toNat] := e
  injection e1 with e1 _
  have e2 := congrArg UInt8.toNat e1
  simp [UInt8.toNat_ofNat'] at e2
  omega
theorem inB_b1 (L : List Int) (x : Int) (hL : ∀ y ∈ L, 0 ≤ y ∧ y ≤ 255) (hx : 0 ≤ x ∧ x ≤ 255) : Z.inB (L.map b1) (b1 x) = inB L x := by
  rw [Bool.eq_iff_iff, Z.inB_iff, inB_iff, List.mem_map]
  constructor
  · rintro ⟨y, hy, e⟩
    rw [← b1_inj (hL y hy) hx e]
    exact hy
  · intro h
    exact ⟨x, h, rfl⟩
theorem conv_one (w : World) (B : Nat) (z : Int) (h : w.cell? ⟨B, 0, none⟩ = some (.int .u8 z)) : (convert 51 9 (.slice (some ⟨B, 0, none⟩) 1 1)).run Try.prog w = .ok (.string (b1 z)) w := by
  rw [run_convert_bytes_string w _ _ 5 _ _ _ Try.underlying51 Try.underlying5 Try.underlying9]
  exact run_bytesToString w ⟨B, 0, none⟩ 1 1 [z] (by simp [go_sem, loadCells, h])
/-- Blocks of bytes lie as they lay. -/
def KeepU (W W' : World) : Prop := ∀ (k : Nat) (o : Obj), W.heap[k]? = some o → tag o = some 5 → W'.heap[k]? = some o
theorem keepU_bel {W W' : World} (h : Bel W W') : KeepU W W' := fun k o hk _ => (h.out.block k (lt_of_heap hk)).trans hk
theorem keepU_cell {W W' : World} {B : Nat} {y : Int} (h : KeepU W W') (hk : W.heap[B]? = some (.cells #[.int .u8 y] 5 (0, 0))) : W'.cell? ⟨B, 0, none⟩ = some (.int .u8 y) := cell_of (h B _ hk rfl) 0
section
variable {n₀ b b' : Nat} {v v' : Value} {mp mp' : Option Nat} {L : List Int} {wr : World}
theorem stepA_old (y : Int) (wy : (Lit.int .i64 y).wf = true) (s : IsS n₀ wr b v mp L) (hin : inB L y = true) (W1 : World) (hb : Bel wr W1) :
    Calls Try.prog 18 #[.pointer (some ⟨b, 0, none⟩), .int .i64 y] W1 fun e w2 => e = .returned (.bool false) ∧ Bel wr w2 ∧ KeepU W1 w2 :=
  (add_old n₀ b v mp L y wy W1 (s.bel hb) hin).mono fun e w2 ⟨he, h2⟩ => ⟨he, btrans hb h2, keepU_bel h2⟩
theorem stepB_old (y : Int) (z : Z.IsS n₀ wr b' v' mp' (L.map b1)) (hin : Z.inB (L.map b1) (b1 y) = true) (W1 : World) (hb : Bel wr W1) :
    Calls Try.prog 24 #[.pointer (some ⟨b', 0, none⟩), .string (b1 y)] W1 fun e w2 => e = .returned (.bool false) ∧ Bel wr w2 ∧ KeepU W1 w2 :=
  (Z.add_old n₀ b' v' mp' (L.map b1) (b1 y) (b1_size y) W1 (z.bel hb) hin).mono fun e w2 ⟨he, h2⟩ => ⟨he, btrans hb h2, keepU_bel h2⟩
theorem stepA_new {w : World} (y : Int) (wy : (Lit.int .i64 y).wf = true) (hlen : L.length < 1000) (hB : Bel w wr) (s : IsS w.heap.size wr b v mp L) (z : Z.IsS w.heap.size wr b' v' mp' (L.map b1)) (hap : MapsApart mp mp') (hin : inB L y = false) (W1 : World) (hb : Bel wr W1) :
    Calls Try.prog 18 #[.pointer (some ⟨b, 0, none⟩), .int .i64 y] W1 fun e w2 => e = .returned (.bool true) ∧
      ∃ v2 m2, IsS w.heap.size w2 b v2 (some m2) (L ++ [y]) ∧ Z.IsS w.heap.size w2 b' v' mp' (L.map b1) ∧ MapsApart (some m2) mp' ∧ Bel w w2 ∧ KeepU W1 w2 := by
  have s1 := s.bel hb
  have z1 := z.bel hb
  have hB1 := btrans hB hb
  refine (add_new w.heap.size b v mp L y wy (by omega) W1 hB1.size s1 hin).mono ?_
  rintro e w2 ⟨rfl, v2, m2, s2, k2, _, o2⟩
  refine ⟨rfl, v2, m2, s2, z_of_s z1 s1 hap k2, maps_left z1 hap o2, hB1.out.trans (s1.below hB1.size k2), fun k o hk ht => k2.block k o hk fun hs => ?_⟩
  obtain ⟨_, h | h | ⟨h, _⟩⟩ := s1.tag3 k o hk hs <;> rw [ht] at h <;> first | (injection h with h; exact absurd h (by decide)) | cases h
theorem stepB_new {w : World} {L2 : List Int} (y : Int) (hlen : L.length < 1000) (hB : Bel w wr) (s : IsS w.heap.size wr b v mp L2) (z : Z.IsS w.heap.size wr b' v' mp' (L.map b1)) (hap : MapsApart mp mp') (hin : Z.inB (L.map b1) (b1 y) = false) (W1 : World) (hb : Bel wr W1) :
    Calls Try.prog 24 #[.pointer (some ⟨b', 0, none⟩), .string (b1 y)] W1 fun e w2 => e = .returned (.bool true) ∧
      ∃ v2 m2, IsS w.heap.size w2 b v mp L2 ∧ Z.IsS w.heap.size w2 b' v2 (some m2) ((L ++ [y]).map b1) ∧ MapsApart mp (some m2) ∧ Bel w w2 ∧ KeepU W1 w2 := by
  have s1 := s.bel hb
  have z1 := z.bel hb
  have hB1 := btrans hB hb
  refine (Z.add_new w.heap.size b' v' mp' (L.map b1) (b1 y) (b1_size y) (by rw [List.length_map]; omega) W1 hB1.size z1 hin).mono ?_
  rintro e w2 ⟨rfl, v2, m2, z2, k2, _, o2⟩
  refine ⟨rfl, v2, m2, s1.of_z z1 hap k2, by rw [List.map_append]; exact z2, maps_right s1 hap o2, hB1.out.trans (z1.below hB1.size k2), fun k o hk ht => k2.block k o hk fun hs => ?_⟩
  obtain ⟨_, h | h | ⟨h, _⟩⟩ := z1.tag3 k o hk hs <;> rw [ht] at h <;> first | (injection h with h; exact absurd h (by decide)) | cases h
end

set_option maxRecDepth 20000 in
set_option maxHeartbeats 2000000 in
theorem walk (w : World) (y0 : Value) (X0 : List Int) (wy0 : Ints .u8 w y0 X0) (vy0 : ∀ x ∈ X0, (Lit.int .u8 x).wf = true) :
    Calls Try.prog 8 #[y0] w fun e w' => e = .returned (.bool true) ∧ Bel w w' := by
  have s0 := IsS.new w.heap.size w (Nat.le_refl _)
  have B0 : Bel w (w.alloc (.cells #[.slice none 0 0, .map none] 39)) := (Bel.refl _).alloc _
  have z1 := Z.IsS.new w.heap.size (w.alloc (.cells #[.slice none 0 0, .map none] 39)) B0.size
  have s1 := s0.bel ((Bel.refl _).alloc (.cells #[.slice none 0 0, .map none] 55))
  have B1 := B0.alloc (.cells #[.slice none 0 0, .map none] 55)
  rw [World.size_alloc] at z1
  obtain ⟨ao, cap, rfl, hv⟩ := wy0
  go_enter Try.func8, Try.ntmps8
  go_wp2_with fail
  go_loopw [5] (fun i wr => ∃ (k : Nat) (L : List Int) (v v' : Value) (mp mp' : Option Nat), i = .int .i64 k ∧ k ≤ min X0.length 100 ∧ L.length ≤ k ∧ IsS w.heap.size wr w.heap.size v mp L ∧ Z.IsS w.heap.size wr (w.heap.size + 1) v' mp' (L.map b1) ∧ MapsApart mp mp' ∧ (∀ x ∈ L, 0 ≤ x ∧ x ≤ 255) ∧ Bel w wr) (fun i _ => 100 - (intOf i).toNat)
  case atStart => exact ⟨0, [], _, _, _, _, rfl, Nat.zero_le _, Nat.le_refl _, s1, z1, (fun k e => by cases e), by simp, B1⟩
  case round =>
    obtain ⟨k, L, v, v', mp, mp', rfl, hk, hlk, s, z, hap, hwf, hB⟩ := hrel
    have hsz := hB.size
    by_cases hlt : k < min X0.length 100
    · obtain ⟨b, o, rfl, hb, hc⟩ := hv (by omega)
      have hck := hc k (by omega)
      have hcx := ((bcell hB).1 b (o + k) hb).trans hck
      have wz := wf_u8 (vy0 (X0[k]?.getD 0) (by simp [show k < X0.length by omega]))
      have l1 : (k : Int) < X0.length := by omega
      have l2 : k < X0.length := by omega
      have l3 : (k : Int) < 100 := by omega
      generalize X0[k]?.getD 0 = y at hck hcx wz
      clear hc hv
      have HI := inB_b1 L y hwf wz
      have wy : (Lit.int .i64 y).wf = true := by simp only [Lit.wf, Bool.and_eq_true, decide_eq_true_eq]; exact (⟨by omega, by omega⟩ : -9223372036854775808 ≤ y ∧ y ≤ 9223372036854775807)
      have hwr : IntKind.i64.wrap y = y := by rw [IntKind.wrap_i64]; omega
      have hcv := fun w B => conv_one w B y
      have hlen2 : L.length < 1000 := by omega
      cases hin : inB L y with
      | true =>
        rw [hin] at HI
        go_wp2_with fail
        go_region_held (fun w' => w'.cell? ⟨b, o + k, none⟩ = some (.int .u8 y)) (go_keep) (first
          | (go_at_call 18; refine (stepA_old y wy s hin _ ?_).mono ?_; (first | exact (Bel.refl wr).drew | exact ((Bel.refl wr).alloc _).drew); rintro e w2 ⟨rfl, b2, u2⟩; have s2 := s.bel b2; have z2 := z.bel b2; have B2 := btrans hB b2; have hcx2 := ((bcell B2).1 b (o + k) hb).trans hck; (first | (have hcb := keepU_cell (B := wr.heap.size) (y := y) u2 (heap_new wr _)) | skip))
          | (go_at_call 24; refine (stepB_old y z2 HI _ ?_).mono ?_; (first | exact (Bel.refl w2) | exact ((Bel.refl w2).alloc _)); rintro e w3 ⟨rfl, b3, u3⟩; have s3 := s2.bel b3; have z3 := z2.bel b3; have B3 := btrans B2 b3; have hcx3 := ((bcell B3).1 b (o + k) hb).trans hck))
        all_goals
          go_wp2_with (first
            | (go_at_call 18; refine (stepA_old y wy s3 hin _ (Bel.refl w3)).mono ?_; rintro e w4 ⟨rfl, b4, u4⟩; have s4 := s3.bel b4; have z4 := z3.bel b4; have B4 := btrans B3 b4; have hcx4 := ((bcell B4).1 b (o + k) hb).trans hck)
            | (go_at_call 24; refine (stepB_old y z4 HI _ ((Bel.refl w4).alloc _)).mono ?_; rintro e w5 ⟨rfl, b5, u5⟩; have s5 := s4.bel b5; have z5 := z4.bel b5; have B5 := btrans B4 b5)
            | (go_at_call 20; refine (slen_any w.heap.size w.heap.size v mp L _ s5).mono ?_; rintro e w6 ⟨rfl, e6⟩; subst e6)
            | (go_at_call 25; refine (Z.slen_any w.heap.size (w.heap.size + 1) v' mp' (L.map b1) _ z5).mono ?_; rintro e w7 ⟨rfl, e7⟩; subst e7; rw [List.length_map]))
          go_roundw
          case rel => exact ⟨k + 1, L, v, v', mp, mp', by simp, by omega, by omega, s5, z5, hap, hwf, B5⟩
          case measure => simp only [intOf]; omega
      | false =>
        rw [hin] at HI
        have hin2 : inB (L ++ [y]) y = true := by rw [inB_iff]; simp
        have HI2 : Z.inB ((L ++ [y]).map b1) (b1 y) = true := by rw [Z.inB_iff]; simp
        have hwf2 : ∀ x ∈ L ++ [y], 0 ≤ x ∧ x ≤ 255 := fun x hx => by
          rcases List.mem_append.1 hx with hx | hx
          · exact hwf x hx
          · simp at hx; subst hx; exact wz
        have hll : (L ++ [y]).length = L.length + 1 := by simp
        have hll2 : ((L ++ [y]).map b1).length = L.length + 1 := by simp
        have HI2' : Hid (Z.inB ((L ++ [y]).map b1) (b1 y) = true) := HI2
        have hin2' : Hid (inB (L ++ [y]) y = true) := hin2
        clear HI2 hin2
        go_wp2_with fail
        go_region_held (fun w' => w'.cell? ⟨b, o + k, none⟩ = some (.int .u8 y)) (go_keep) (first
          | (go_at_call 18; refine (stepA_new y wy hlen2 hB s z hap hin _ ?_).mono ?_; (first | exact (Bel.refl wr).drew | exact ((Bel.refl wr).alloc _).drew); rintro e w2 ⟨rfl, v2, m2, s2, z2, a2, B2, u2⟩; have hcx2 := ((bcell B2).1 b (o + k) hb).trans hck; (first | (have hcb := keepU_cell (B := wr.heap.size) (y := y) u2 (heap_new wr _)) | skip))
          | (go_at_call 24; refine (stepB_new y hlen2 B2 s2 z2 a2 HI _ ?_).mono ?_; (first | exact (Bel.refl w2) | exact ((Bel.refl w2).alloc _)); rintro e w3 ⟨rfl, v3, m3, s3, z3, a3, B3, u3⟩; have hcx3 := ((bcell B3).1 b (o + k) hb).trans hck))
        all_goals
          generalize L ++ [y] = L2 at *
          go_wp2_with (first
            | (go_at_call 18; refine (stepA_old y wy s3 hin2'.out _ (Bel.refl w3)).mono ?_; rintro e w4 ⟨rfl, b4, u4⟩; have s4 := s3.bel b4; have z4 := z3.bel b4; have B4 := btrans B3 b4; have hcx4 := ((bcell B4).1 b (o + k) hb).trans hck)
            | (go_at_call 24; refine (stepB_old y z4 HI2'.out _ ((Bel.refl w4).alloc _)).mono ?_; rintro e w5 ⟨rfl, b5, u5⟩; have s5 := s4.bel b5; have z5 := z4.bel b5; have B5 := btrans B4 b5)
            | (go_at_call 20; refine (slen_any w.heap.size w.heap.size v2 (some m2) L2 _ s5).mono ?_; rintro e w6 ⟨rfl, e6⟩; subst e6)
            | (go_at_call 25; refine (Z.slen_any w.heap.size (w.heap.size + 1) v3 (some m3) (L2.map b1) _ z5).mono ?_; rintro e w7 ⟨rfl, e7⟩; subst e7; rw [List.length_map]))
          go_roundw
          case rel => exact ⟨k + 1, L2, v2, v3, some m2, some m3, by simp, by omega, by omega, s5, z5, a3, hwf2, B5⟩
          case measure => simp only [intOf]; omega
    · have l4 : (k : Int) < X0.length → ¬ ((k : Int) < 100) := by omega
      by_cases l1 : (k : Int) < X0.length
      all_goals
        first | (have l5 := l4 l1; clear l4) | clear l4
        go_wp2_with (go_at_call 15; refine (awake_any _).mono ?_; rintro e w4 ⟨rfl, b4⟩)
        go_ret
        exact ⟨rfl, btrans hB b4⟩

set_option maxRecDepth 100000 in
theorem lifted (os : Os) (started : os.Started) (H : Type) (enc : TypeId × Value → H) :
    ReturnsInHanded {} Try.checked os 8 .any (Rows.bagTwiceSpec.pre6 enc Try.prog Try.f8 Rows.bagTwiceRow.domain false) (Rows.bagTwiceSpec.post enc Try.prog Try.f8 false true false false) := by
  refine returnsInHanded_of_change (C := Try.checked) own started (by kernel_rfl) Try.func8
    (ChangeSpec.witness6 (enc := enc) (C := Try.checked) false ⟨#[], #[.slice none 0 0], []⟩ 8 (by kernel_rfl) (by kernel_rfl) (by kernel_rfl) (by kernel_rfl)) ?_
  intro W base args ds gs before hval0 hW hcnd _
  have hval : ∀ (j : Nat) t v, Try.f8.params[j]? = some t → args[j]? = some v → Value.okWide Try.prog W .any base t v := hval0
  have hW' := hW
  obtain ⟨p, q, hA0, hV, rfl, hfz, hnd⟩ := hW
  have hA : DataW.TrodAll enc Try.prog W 0 (fun _ => true) true Try.f8.params.toList args.toList ds p := hA0
  rw [Try.params8] at hA hval
  obtain ⟨v0, vs0, d0, ds0, p0, q0, hargs, rfl, rfl, h0, r0⟩ := trodAll_cons hA
  obtain ⟨rfl, rfl, rfl⟩ := trodAll_nil r0
  obtain rfl : args = #[v0] := by cases args; simp_all
  obtain ⟨rfl, rfl⟩ := trodVars_none hV
  have k0 := h0
  have lt0 : ∀ x ∈ p0, x.block < W.heap.size := by obtain ⟨m, hm⟩ := k0; exact DataW.trod_lt m _ _ _ hm
  obtain ⟨X0, wy0, vy0⟩ := open_intsK Try.underlying51 Try.underlying5 (by kernel_rfl) (hval 0 51 v0 rfl rfl) h0
  clear hA0 hval0
  refine (walk W v0 X0 wy0 vy0).mono fun e W' ⟨he, bel⟩ => ?_
  subst he
  exact ⟨_, rfl, _, _, _, [], _, [], hW', trodAll_mk1 (shut_bool Try.underlying4 _), (trodAll_cons_mk (Below.trod laidOut (by kernel_rfl) (of_decide_eq_true (by kernel_rfl)) k0 bel.out lt0) trodAll_mk0), rfl, bel.out.frame _, fun h => by cases h⟩

theorem over : Rows.bagTwiceRow.holds Try.pinned (OpenSpec.ofChange Rows.bagTwiceSpec) :=
  OpenClaim.holds_of_wide 8 Try.f8 rfl rfl rfl rfl rfl rfl rfl ⟨rfl, rfl, rfl, rfl, rfl⟩ rfl rfl rfl rfl rfl (by kernel_rfl) Try.func8 (by kernel_rfl)
    (of_decide_eq_true (by kernel_rfl)) (by unfold Func.isWrapper; first | (rw [if_pos (by decide +kernel)]; kernel_rfl) | (rw [if_neg (by decide +kernel)]; exact ⟨rfl, rfl⟩))
    (fun os started H enc _ => lifted os started H enc)

theorem proved : Rows.BagTwiceSaid :=
  over
#print axioms proved
end Go.Proofs.Ytfgejepjiifmlaa.bagTwice
