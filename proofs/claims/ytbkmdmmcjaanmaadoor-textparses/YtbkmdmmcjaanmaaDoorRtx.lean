/-
  The contract of the reference's Text of layer 4.
-/
import Derived.Test.YtbkmdmmcjaanmaaDoorDig
import Derived.Test.YtbkmdmmcjaanmaaDoorRdp
namespace Go.Proofs.YtbkmdmmcjaanmaaDoor
set_option maxRecDepth 20000
open Go.ChangeShapes Go.WideShapes Go.ChangeAt Go.RowKit
open Go.Lib hiding intOf

theorem arr_at (k : Nat) (h : k ≤ 20) : (#[.string ⟨#[110, 111, 112]⟩, .string ⟨#[97, 100, 100]⟩, .string ⟨#[115, 117, 98]⟩, .string ⟨#[109, 117, 108]⟩, .string ⟨#[100, 105, 118]⟩, .string ⟨#[109, 111, 100]⟩, .string ⟨#[97, 110, 100]⟩, .string ⟨#[111, 114]⟩, .string ⟨#[115, 108, 116]⟩, .string ⟨#[115, 101, 113]⟩, .string ⟨#[97, 100, 100, 105]⟩, .string ⟨#[108, 117, 105]⟩, .string ⟨#[108, 119]⟩, .string ⟨#[115, 119]⟩, .string ⟨#[99, 104, 101, 99, 107]⟩, .string ⟨#[98, 101, 113]⟩, .string ⟨#[98, 110, 101]⟩, .string ⟨#[106, 109, 112]⟩, .string ⟨#[106, 97, 108]⟩, .string ⟨#[106, 114]⟩, .string ⟨#[115, 121, 115]⟩] : Array Value)[k]? = some (.string (bs (nameL k))) := by
  have hc : k = 0 ∨ k = 1 ∨ k = 2 ∨ k = 3 ∨ k = 4 ∨ k = 5 ∨ k = 6 ∨ k = 7 ∨ k = 8 ∨ k = 9 ∨ k = 10 ∨ k = 11 ∨ k = 12 ∨ k = 13 ∨ k = 14 ∨ k = 15 ∨ k = 16 ∨ k = 17 ∨ k = 18 ∨ k = 19 ∨ k = 20 := by omega
  clear h
  rcases hc with rfl | rfl | rfl | rfl | rfl | rfl | rfl | rfl | rfl | rfl | rfl | rfl | rfl | rfl | rfl | rfl | rfl | rfl | rfl | rfl | rfl <;> rfl
theorem cell_arr (w : World) (k : Nat) (h : k ≤ 20) : (w.alloc (.cells #[.string ⟨#[110, 111, 112]⟩, .string ⟨#[97, 100, 100]⟩, .string ⟨#[115, 117, 98]⟩, .string ⟨#[109, 117, 108]⟩, .string ⟨#[100, 105, 118]⟩, .string ⟨#[109, 111, 100]⟩, .string ⟨#[97, 110, 100]⟩, .string ⟨#[111, 114]⟩, .string ⟨#[115, 108, 116]⟩, .string ⟨#[115, 101, 113]⟩, .string ⟨#[97, 100, 100, 105]⟩, .string ⟨#[108, 117, 105]⟩, .string ⟨#[108, 119]⟩, .string ⟨#[115, 119]⟩, .string ⟨#[99, 104, 101, 99, 107]⟩, .string ⟨#[98, 101, 113]⟩, .string ⟨#[98, 110, 101]⟩, .string ⟨#[106, 109, 112]⟩, .string ⟨#[106, 97, 108]⟩, .string ⟨#[106, 114]⟩, .string ⟨#[115, 121, 115]⟩] 9)).cell? ⟨w.heap.size, k, none⟩ = some (.string (bs (nameL k))) := by
  rw [World.cell?, heap_alloc_new]
  exact arr_at k h
set_option maxHeartbeats 4000000 in
set_option maxRecDepth 20000 in
theorem rtext_any (op a b c imm : Int) (w : World) (hr : rightB op a b c imm = true) :
    Calls Tryd.prog 13 #[.agg #[.int .i64 op, .int .i64 a, .int .i64 b, .int .i64 c, .int .i64 imm]] w fun e w' => e = .returned (.string (bs (txtL op a b c imm))) ∧ Bel w w' := by
  obtain ⟨b1, b2, b3, b4, b5, b6, b7, b8, b9, b10⟩ := right_bd hr
  obtain ⟨k, rfl⟩ : ∃ k : Nat, op = k := ⟨op.toNat, by omega⟩
  have hk : k ≤ 20 := by omega
  have hcl : ∀ o : Obj, ((w.alloc o).alloc (.cells #[.string ⟨#[110, 111, 112]⟩, .string ⟨#[97, 100, 100]⟩, .string ⟨#[115, 117, 98]⟩, .string ⟨#[109, 117, 108]⟩, .string ⟨#[100, 105, 118]⟩, .string ⟨#[109, 111, 100]⟩, .string ⟨#[97, 110, 100]⟩, .string ⟨#[111, 114]⟩, .string ⟨#[115, 108, 116]⟩, .string ⟨#[115, 101, 113]⟩, .string ⟨#[97, 100, 100, 105]⟩, .string ⟨#[108, 117, 105]⟩, .string ⟨#[108, 119]⟩, .string ⟨#[115, 119]⟩, .string ⟨#[99, 104, 101, 99, 107]⟩, .string ⟨#[98, 101, 113]⟩, .string ⟨#[98, 110, 101]⟩, .string ⟨#[106, 109, 112]⟩, .string ⟨#[106, 97, 108]⟩, .string ⟨#[106, 114]⟩, .string ⟨#[115, 121, 115]⟩] 9)).cell? ⟨w.heap.size + 1, k, none⟩ = some (.string (bs (nameL k))) := fun o => by
    have := cell_arr (w.alloc o) k hk
    simpa using this
  have hnl := (name_facts (op := (k : Int)) ⟨by omega, by omega⟩).2.2.2
  have hB : Bel w ((w.alloc (.cells #[.int .i64 k, .int .i64 a, .int .i64 b, .int .i64 c, .int .i64 imm] 23)).alloc (.cells #[.string ⟨#[110, 111, 112]⟩, .string ⟨#[97, 100, 100]⟩, .string ⟨#[115, 117, 98]⟩, .string ⟨#[109, 117, 108]⟩, .string ⟨#[100, 105, 118]⟩, .string ⟨#[109, 111, 100]⟩, .string ⟨#[97, 110, 100]⟩, .string ⟨#[111, 114]⟩, .string ⟨#[115, 108, 116]⟩, .string ⟨#[115, 101, 113]⟩, .string ⟨#[97, 100, 100, 105]⟩, .string ⟨#[108, 117, 105]⟩, .string ⟨#[108, 119]⟩, .string ⟨#[115, 119]⟩, .string ⟨#[99, 104, 101, 99, 107]⟩, .string ⟨#[98, 101, 113]⟩, .string ⟨#[98, 110, 101]⟩, .string ⟨#[106, 109, 112]⟩, .string ⟨#[106, 97, 108]⟩, .string ⟨#[106, 114]⟩, .string ⟨#[115, 121, 115]⟩] 9)) := ((Bel.refl w).alloc _).alloc _
  have x0 := boxed5 ((Bel.refl (w.alloc (.cells #[.int .i64 k, .int .i64 a, .int .i64 b, .int .i64 c, .int .i64 imm] 23))).alloc (.cells #[.string ⟨#[110, 111, 112]⟩, .string ⟨#[97, 100, 100]⟩, .string ⟨#[115, 117, 98]⟩, .string ⟨#[109, 117, 108]⟩, .string ⟨#[100, 105, 118]⟩, .string ⟨#[109, 111, 100]⟩, .string ⟨#[97, 110, 100]⟩, .string ⟨#[111, 114]⟩, .string ⟨#[115, 108, 116]⟩, .string ⟨#[115, 101, 113]⟩, .string ⟨#[97, 100, 100, 105]⟩, .string ⟨#[108, 117, 105]⟩, .string ⟨#[108, 119]⟩, .string ⟨#[115, 119]⟩, .string ⟨#[99, 104, 101, 99, 107]⟩, .string ⟨#[98, 101, 113]⟩, .string ⟨#[98, 110, 101]⟩, .string ⟨#[106, 109, 112]⟩, .string ⟨#[106, 97, 108]⟩, .string ⟨#[106, 114]⟩, .string ⟨#[115, 121, 115]⟩] 9))
  have hsp : Hid (∀ x : Later ((w.alloc (.cells #[.int .i64 k, .int .i64 a, .int .i64 b, .int .i64 c, .int .i64 imm] 23)).alloc (.cells #[.string ⟨#[110, 111, 112]⟩, .string ⟨#[97, 100, 100]⟩, .string ⟨#[115, 117, 98]⟩, .string ⟨#[109, 117, 108]⟩, .string ⟨#[100, 105, 118]⟩, .string ⟨#[109, 111, 100]⟩, .string ⟨#[97, 110, 100]⟩, .string ⟨#[111, 114]⟩, .string ⟨#[115, 108, 116]⟩, .string ⟨#[115, 101, 113]⟩, .string ⟨#[97, 100, 100, 105]⟩, .string ⟨#[108, 117, 105]⟩, .string ⟨#[108, 119]⟩, .string ⟨#[115, 119]⟩, .string ⟨#[99, 104, 101, 99, 107]⟩, .string ⟨#[98, 101, 113]⟩, .string ⟨#[98, 110, 101]⟩, .string ⟨#[106, 109, 112]⟩, .string ⟨#[106, 97, 108]⟩, .string ⟨#[106, 114]⟩, .string ⟨#[115, 121, 115]⟩] 9)), x.at_.cell? ⟨w.heap.size, 1, none⟩ = some (.int .i64 a) ∧ x.at_.cell? ⟨w.heap.size, 2, none⟩ = some (.int .i64 b) ∧ x.at_.cell? ⟨w.heap.size, 3, none⟩ = some (.int .i64 c) ∧ x.at_.cell? ⟨w.heap.size, 4, none⟩ = some (.int .i64 imm)) := fun x => by
    have hs : w.heap.size < ((w.alloc (.cells #[.int .i64 k, .int .i64 a, .int .i64 b, .int .i64 c, .int .i64 imm] 23)).alloc (.cells #[.string ⟨#[110, 111, 112]⟩, .string ⟨#[97, 100, 100]⟩, .string ⟨#[115, 117, 98]⟩, .string ⟨#[109, 117, 108]⟩, .string ⟨#[100, 105, 118]⟩, .string ⟨#[109, 111, 100]⟩, .string ⟨#[97, 110, 100]⟩, .string ⟨#[111, 114]⟩, .string ⟨#[115, 108, 116]⟩, .string ⟨#[115, 101, 113]⟩, .string ⟨#[97, 100, 100, 105]⟩, .string ⟨#[108, 117, 105]⟩, .string ⟨#[108, 119]⟩, .string ⟨#[115, 119]⟩, .string ⟨#[99, 104, 101, 99, 107]⟩, .string ⟨#[98, 101, 113]⟩, .string ⟨#[98, 110, 101]⟩, .string ⟨#[106, 109, 112]⟩, .string ⟨#[106, 97, 108]⟩, .string ⟨#[106, 114]⟩, .string ⟨#[115, 121, 115]⟩] 9)).heap.size := by simp; omega
    exact ⟨later_cell x0.2.1 hs x, later_cell x0.2.2.1 hs x, later_cell x0.2.2.2.1 hs x, later_cell x0.2.2.2.2.1 hs x⟩
  clear x0
  have ra := itoa_len a (by omega) (by omega)
  have rb := itoa_len b (by omega) (by omega)
  have rc := itoa_len c (by omega) (by omega)
  have ri := itoa_len imm (by omega) (by omega)
  have la : (regL a).length ≤ 7 := by simp [regL]; omega
  have lb : (regL b).length ≤ 7 := by simp [regL]; omega
  have lc : (regL c).length ≤ 7 := by simp [regL]; omega
  have q1 := add_bs (x := bs (nameL k)) (y := ⟨#[32]⟩) (b := [32]) rfl rfl (by simp; omega)
  rcases txt_cases _ _ _ _ _ hr with ⟨e0, -, -, -, -, e⟩ | ⟨e0, e1, -, e⟩ | ⟨e0, -, e⟩ | ⟨e0, -, -, e⟩ | ⟨e0, -, -, -, e⟩ | ⟨e0, -, -, -, e⟩
  · have E : Hid _ := e
    clear e hr
    have k0 : ((k : Int) == 0) = true := by simp; omega
    clear e0
    go_enter Tryd.func13, Tryd.ntmps13
    go_wp2
    go_ret
    exact ⟨ret_str (by rw [E.out]), hB⟩
  · have E : Hid _ := e
    clear e hr
    have k0 : ((k : Int) == 0) = false := by simp; omega
    have k1 : (k : Int) < 10 := by omega
    have q2 := add_bs (x := bs (nameL k ++ [32])) (y := bs (regL a)) rfl rfl (by simp; omega)
    have q3 := add_bs (x := bs (nameL k ++ 32 :: regL a)) (y := ⟨#[44]⟩) (b := [44]) rfl rfl (by simp; omega)
    have q4 := add_bs (x := bs (nameL k ++ 32 :: (regL a ++ [44]))) (y := bs (regL b)) rfl rfl (by simp; omega)
    have q5 := add_bs (x := bs (nameL k ++ 32 :: (regL a ++ 44 :: regL b))) (y := ⟨#[44]⟩) (b := [44]) rfl rfl (by simp; omega)
    have q6 := add_bs (x := bs (nameL k ++ 32 :: (regL a ++ 44 :: (regL b ++ [44])))) (y := bs (regL c)) rfl rfl (by simp; omega)
    go_enter Tryd.func13, Tryd.ntmps13
    go_wp2_with fail
    generalize (w.alloc (.cells #[.int .i64 k, .int .i64 a, .int .i64 b, .int .i64 c, .int .i64 imm] 23)).alloc (.cells #[.string ⟨#[110, 111, 112]⟩, .string ⟨#[97, 100, 100]⟩, .string ⟨#[115, 117, 98]⟩, .string ⟨#[109, 117, 108]⟩, .string ⟨#[100, 105, 118]⟩, .string ⟨#[109, 111, 100]⟩, .string ⟨#[97, 110, 100]⟩, .string ⟨#[111, 114]⟩, .string ⟨#[115, 108, 116]⟩, .string ⟨#[115, 101, 113]⟩, .string ⟨#[97, 100, 100, 105]⟩, .string ⟨#[108, 117, 105]⟩, .string ⟨#[108, 119]⟩, .string ⟨#[115, 119]⟩, .string ⟨#[99, 104, 101, 99, 107]⟩, .string ⟨#[98, 101, 113]⟩, .string ⟨#[98, 110, 101]⟩, .string ⟨#[106, 109, 112]⟩, .string ⟨#[106, 97, 108]⟩, .string ⟨#[106, 114]⟩, .string ⟨#[115, 121, 115]⟩] 9) = w2 at hB hsp ⊢
    have d1 := fun x => (hsp.out x).1
    have d2 := fun x => (hsp.out x).2.1
    have d3 := fun x => (hsp.out x).2.2.1
    have d4 := fun x => (hsp.out x).2.2.2
    haveI := Later.ne w2
    obtain ⟨u1, e1⟩ := later_start w2
    rw [← e1]
    clear e1 hcl hsp
    refine wp_region_later (by kernel_rfl) (by kernel_rfl) ?_
    repeat (go_big_quiet_step ((first | (go_at_call 25; exact later_of (rg_any _ _ (by omega) (by omega))) | (go_at_call 15; exact later_of (dig_any _ _ (by omega) (by omega))))))
    refine wpQuiet_nil ?_
    rintro _ ⟨u2, rfl⟩
    go_wp2
    go_ret
    exact ⟨ret_str (by rw [E.out]), btrans hB u2.is_⟩
  · have E : Hid _ := e
    clear e hr
    have k0 : ((k : Int) == 0) = false := by simp; omega
    have k1 : ¬ (k : Int) < 10 := by omega
    have k2 : ((k : Int) == 11) = false := by simp; omega
    have k3 : (k : Int) < 17 := by omega
    have q2 := add_bs (x := bs (nameL k ++ [32])) (y := bs (regL a)) rfl rfl (by simp; omega)
    have q3 := add_bs (x := bs (nameL k ++ 32 :: regL a)) (y := ⟨#[44]⟩) (b := [44]) rfl rfl (by simp; omega)
    have q4 := add_bs (x := bs (nameL k ++ 32 :: (regL a ++ [44]))) (y := bs (regL b)) rfl rfl (by simp; omega)
    have q5 := add_bs (x := bs (nameL k ++ 32 :: (regL a ++ 44 :: regL b))) (y := ⟨#[44]⟩) (b := [44]) rfl rfl (by simp; omega)
    have q6 := add_bs (x := bs (nameL k ++ 32 :: (regL a ++ 44 :: (regL b ++ [44])))) (y := bs (itoa imm)) rfl rfl (by simp; omega)
    go_enter Tryd.func13, Tryd.ntmps13
    go_wp2_with fail
    generalize (w.alloc (.cells #[.int .i64 k, .int .i64 a, .int .i64 b, .int .i64 c, .int .i64 imm] 23)).alloc (.cells #[.string ⟨#[110, 111, 112]⟩, .string ⟨#[97, 100, 100]⟩, .string ⟨#[115, 117, 98]⟩, .string ⟨#[109, 117, 108]⟩, .string ⟨#[100, 105, 118]⟩, .string ⟨#[109, 111, 100]⟩, .string ⟨#[97, 110, 100]⟩, .string ⟨#[111, 114]⟩, .string ⟨#[115, 108, 116]⟩, .string ⟨#[115, 101, 113]⟩, .string ⟨#[97, 100, 100, 105]⟩, .string ⟨#[108, 117, 105]⟩, .string ⟨#[108, 119]⟩, .string ⟨#[115, 119]⟩, .string ⟨#[99, 104, 101, 99, 107]⟩, .string ⟨#[98, 101, 113]⟩, .string ⟨#[98, 110, 101]⟩, .string ⟨#[106, 109, 112]⟩, .string ⟨#[106, 97, 108]⟩, .string ⟨#[106, 114]⟩, .string ⟨#[115, 121, 115]⟩] 9) = w2 at hB hsp ⊢
    have d1 := fun x => (hsp.out x).1
    have d2 := fun x => (hsp.out x).2.1
    have d3 := fun x => (hsp.out x).2.2.1
    have d4 := fun x => (hsp.out x).2.2.2
    haveI := Later.ne w2
    obtain ⟨u1, e1⟩ := later_start w2
    rw [← e1]
    clear e1 hcl hsp
    refine wp_region_later (by kernel_rfl) (by kernel_rfl) ?_
    repeat (go_big_quiet_step ((first | (go_at_call 25; exact later_of (rg_any _ _ (by omega) (by omega))) | (go_at_call 15; exact later_of (dig_any _ _ (by omega) (by omega))))))
    refine wpQuiet_nil ?_
    rintro _ ⟨u2, rfl⟩
    go_wp2
    go_ret
    exact ⟨ret_str (by rw [E.out]), btrans hB u2.is_⟩
  · have E : Hid _ := e
    clear e hr
    have k0 : ((k : Int) == 0) = false := by simp; omega
    have k1 : ¬ (k : Int) < 10 := by omega
    have k2 : ((k : Int) == 11) = true := by simp; omega
    clear e0
    have q2 := add_bs (x := bs (nameL k ++ [32])) (y := bs (regL a)) rfl rfl (by simp; omega)
    have q3 := add_bs (x := bs (nameL k ++ 32 :: regL a)) (y := ⟨#[44]⟩) (b := [44]) rfl rfl (by simp; omega)
    have q4 := add_bs (x := bs (nameL k ++ 32 :: (regL a ++ [44]))) (y := bs (itoa imm)) rfl rfl (by simp; omega)
    go_enter Tryd.func13, Tryd.ntmps13
    go_wp2_with fail
    generalize (w.alloc (.cells #[.int .i64 k, .int .i64 a, .int .i64 b, .int .i64 c, .int .i64 imm] 23)).alloc (.cells #[.string ⟨#[110, 111, 112]⟩, .string ⟨#[97, 100, 100]⟩, .string ⟨#[115, 117, 98]⟩, .string ⟨#[109, 117, 108]⟩, .string ⟨#[100, 105, 118]⟩, .string ⟨#[109, 111, 100]⟩, .string ⟨#[97, 110, 100]⟩, .string ⟨#[111, 114]⟩, .string ⟨#[115, 108, 116]⟩, .string ⟨#[115, 101, 113]⟩, .string ⟨#[97, 100, 100, 105]⟩, .string ⟨#[108, 117, 105]⟩, .string ⟨#[108, 119]⟩, .string ⟨#[115, 119]⟩, .string ⟨#[99, 104, 101, 99, 107]⟩, .string ⟨#[98, 101, 113]⟩, .string ⟨#[98, 110, 101]⟩, .string ⟨#[106, 109, 112]⟩, .string ⟨#[106, 97, 108]⟩, .string ⟨#[106, 114]⟩, .string ⟨#[115, 121, 115]⟩] 9) = w2 at hB hsp ⊢
    have d1 := fun x => (hsp.out x).1
    have d2 := fun x => (hsp.out x).2.1
    have d3 := fun x => (hsp.out x).2.2.1
    have d4 := fun x => (hsp.out x).2.2.2
    haveI := Later.ne w2
    obtain ⟨u1, e1⟩ := later_start w2
    rw [← e1]
    clear e1 hcl hsp
    refine wp_region_later (by kernel_rfl) (by kernel_rfl) ?_
    repeat (go_big_quiet_step ((first | (go_at_call 25; exact later_of (rg_any _ _ (by omega) (by omega))) | (go_at_call 15; exact later_of (dig_any _ _ (by omega) (by omega))))))
    refine wpQuiet_nil ?_
    rintro _ ⟨u2, rfl⟩
    go_wp2
    go_ret
    exact ⟨ret_str (by rw [E.out]), btrans hB u2.is_⟩
  · have E : Hid _ := e
    clear e hr
    have k0 : ((k : Int) == 0) = false := by simp; omega
    have k1 : ¬ (k : Int) < 10 := by omega
    have k2 : ((k : Int) == 11) = false := by simp; omega
    have k3 : ¬ (k : Int) < 17 := by omega
    have k4 : ((k : Int) == 19) = false := by simp; omega
    have q2 := add_bs (x := bs (nameL k ++ [32])) (y := bs (itoa imm)) rfl rfl (by simp; omega)
    go_enter Tryd.func13, Tryd.ntmps13
    go_wp2_with (go_at_call 15; refine (dig_any _ _ (by omega) (by omega)).mono ?_; rintro e w3 ⟨rfl, h3⟩)
    go_ret
    exact ⟨ret_str (by rw [E.out]), btrans hB h3⟩
  · have E : Hid _ := e
    clear e hr
    have k0 : ((k : Int) == 0) = false := by simp; omega
    have k1 : ¬ (k : Int) < 10 := by omega
    have k2 : ((k : Int) == 11) = false := by simp; omega
    have k3 : ¬ (k : Int) < 17 := by omega
    have k4 : ((k : Int) == 19) = true := by simp; omega
    clear e0
    have q2 := add_bs (x := bs (nameL k ++ [32])) (y := bs (regL a)) rfl rfl (by simp; omega)
    go_enter Tryd.func13, Tryd.ntmps13
    go_wp2_with (go_at_call 25; refine (rg_any _ _ (by omega) (by omega)).mono ?_; rintro e w3 ⟨rfl, h3⟩)
    go_ret
    exact ⟨ret_str (by rw [E.out]), btrans hB h3⟩
end Go.Proofs.YtbkmdmmcjaanmaaDoor
