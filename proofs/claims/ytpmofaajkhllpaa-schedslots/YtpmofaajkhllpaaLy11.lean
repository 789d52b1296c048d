/-
  The contract of firstPlace.
  The contract of layGoing.
  The contract of Lay.
-/
import Derived.Test.YtpmofaajkhllpaaOs11
import Derived.Deep.RegionLaw
namespace Go.Proofs.Ytpmofaajkhllpaa
set_option maxRecDepth 20000
section
set_option linter.unusedVariables false
open Go.ChangeShapes Go.WideShapes Go.ChangeAt Go.RowKit

/-- The first place at which one may stand behind an order, so many places looked at. -/
def fstK (X : List Ins) (y : Ins) (Z : List Int) : Nat → Int
  | 0 => 0
  | k + 1 => if Z.getD k 0 = -1 then fstK X y Z k else if 0 < farI (xAt X (Z.getD k 0).toNat) y then max (fstK X y Z k) ((k : Int) + farI (xAt X (Z.getD k 0).toNat) y) else fstK X y Z k
theorem fstK_succ (X : List Ins) (y : Ins) (Z : List Int) (k : Nat) : fstK X y Z (k + 1) = if Z.getD k 0 = -1 then fstK X y Z k else if 0 < farI (xAt X (Z.getD k 0).toNat) y then max (fstK X y Z k) ((k : Int) + farI (xAt X (Z.getD k 0).toNat) y) else fstK X y Z k := rfl
theorem fstK_bd (X : List Ins) (y : Ins) (Z : List Int) : ∀ k, 0 ≤ fstK X y Z k ∧ fstK X y Z k ≤ (k : Int) + 1
  | 0 => by simp [fstK]
  | k + 1 => by
    have ih := fstK_bd X y Z k
    have hb := farI_bd (xAt X (Z.getD k 0).toNat) y
    rw [fstK_succ]
    split
    · omega
    · split <;> omega
theorem fstK_le (X : List Ins) (y : Ins) (Z : List Int) (b : Int) (hb : 0 ≤ b) : ∀ k, fstK X y Z k ≤ b ↔ ∀ i, i < k → Z.getD i 0 ≠ -1 → 0 < farI (xAt X (Z.getD i 0).toNat) y → (i : Int) + farI (xAt X (Z.getD i 0).toNat) y ≤ b
  | 0 => by simp [fstK]; exact hb
  | k + 1 => by
    have ih := fstK_le X y Z b hb k
    rw [fstK_succ]
    have step : (∀ i, i < k + 1 → Z.getD i 0 ≠ -1 → 0 < farI (xAt X (Z.getD i 0).toNat) y → (i : Int) + farI (xAt X (Z.getD i 0).toNat) y ≤ b) ↔ (∀ i, i < k → Z.getD i 0 ≠ -1 → 0 < farI (xAt X (Z.getD i 0).toNat) y → (i : Int) + farI (xAt X (Z.getD i 0).toNat) y ≤ b) ∧ (Z.getD k 0 ≠ -1 → 0 < farI (xAt X (Z.getD k 0).toNat) y → (k : Int) + farI (xAt X (Z.getD k 0).toNat) y ≤ b) := by
      constructor
      · intro h
        exact ⟨fun i hi => h i (by omega), h k (by omega)⟩
      · rintro ⟨h1, h2⟩ i hi
        by_cases e : i = k
        · subst e; exact h2
        · exact h1 i (by omega)
    rw [step, ← ih]
    by_cases h1 : Z.getD k 0 = -1
    · rw [if_pos h1]
      exact ⟨fun q => ⟨q, fun e => absurd h1 e⟩, fun q => q.1⟩
    · rw [if_neg h1]
      by_cases h2 : 0 < farI (xAt X (Z.getD k 0).toNat) y
      · rw [if_pos h2]
        exact ⟨fun q => ⟨by omega, fun _ _ => by omega⟩, fun q => by have := q.2 h1 h2; omega⟩
      · rw [if_neg h2]
        exact ⟨fun q => ⟨q, fun _ e => absurd e h2⟩, fun q => q.1⟩

set_option maxHeartbeats 4000000 in
theorem first_any (X : List Ins) (Z : List Int) (v vo : Value) (w : World) (h0 : 0 < X.length) (hX : X.length ≤ 1000) (hZ : Z.length ≤ 10000) (hz : ∀ i, i < Z.length → Z.getD i 0 = -1 ∨ ∃ j : Nat, Z.getD i 0 = j ∧ j < X.length) (hv : Code w v X) (ho : Ints .i64 w vo Z) :
    Calls Try.prog 44 #[v, vo] w fun e W' => e = .returned (.int .i64 (fstK X (xAt X (X.length - 1)) Z Z.length)) ∧ Bel w W' := by
  have HV := hidm hv
  have HO := hidm ho
  have HZ := hidm hz
  obtain ⟨ao, cap, rfl, _⟩ := hv
  obtain ⟨ao2, cap2, rfl, _⟩ := ho
  have hb := fun k => fstK_bd X (xAt X (X.length - 1)) Z k
  have HS := hidm (fun k => fstK_succ X (xAt X (X.length - 1)) Z k)
  go_enter Try.func44, Try.ntmps44
  go_wp2
  go_loopw [11, 5] (fun i f wr => ∃ k : Nat, k ≤ Z.length ∧ i = .int .i64 k ∧ f = .int .i64 (fstK X (xAt X (X.length - 1)) Z k) ∧ Bel w wr) (fun i _ _ => Z.length - (intOf i).toNat)
  case atStart => exact ⟨0, Nat.zero_le _, rfl, rfl, Bel.refl _⟩
  case round =>
    obtain ⟨k, hk, rfl, rfl, hB⟩ := hrel
    rename World => wr
    by_cases hlt : k < Z.length
    · obtain ⟨_, _, e1, hco⟩ := HO.out.bel hB
      cases e1
      obtain ⟨bo, oo, rfl, hbo, hcz⟩ := hco (by omega)
      have c0 := hcz k hlt
      rw [show Z[k]?.getD 0 = Z.getD k 0 from rfl] at c0
      have hkz := HZ.out k hlt
      have hS := HS.out k
      obtain ⟨_, _, e2, hcd⟩ := code_bel HV.out hB
      cases e2
      obtain ⟨cb, co, rfl, hcb, hca⟩ := hcd h0
      obtain ⟨b0, b1, b2, b3, b4⟩ := hca (X.length - 1) (by omega)
      rw [show X.getD (X.length - 1) Ins.zero = xAt X (X.length - 1) from rfl] at b0 b1 b2 b3 b4
      have hbk := hb k
      have hbk1 := hb (k + 1)
      clear hcz hco
      generalize Z.getD k 0 = z at c0 hkz hS
      by_cases hzn : z = -1
      · subst hzn
        rw [if_pos rfl] at hS
        have HSS := hidm hS
        clear hS hkz hca hcd b0 b1 b2 b3 b4 hbk1
        generalize fstK X (xAt X (X.length - 1)) Z k = f at *
        go_wp2
        go_roundw
        case rel => exact ⟨k + 1, by omega, by go_num, by rw [HSS.out], hB⟩
        case measure => simp [intOf]; omega
      · rw [if_neg hzn] at hS
        obtain ⟨j, rfl, hj⟩ := hkz.resolve_left hzn
        obtain ⟨a0, a1, a2, a3, a4⟩ := hca j hj
        rw [show X.getD j Ins.zero = xAt X j from rfl] at a0 a1 a2 a3 a4
        rw [Int.toNat_natCast] at hS
        have A0 := later_cell a0 hcb
        have A1 := later_cell a1 hcb
        have A2 := later_cell a2 hcb
        have A3 := later_cell a3 hcb
        have A4 := later_cell a4 hcb
        have nl : ((X.length : Int) - 1) = ((X.length - 1 : Nat) : Int) := by omega
        obtain ⟨L, hL⟩ : ∃ L : Nat, L = X.length - 1 := ⟨_, rfl⟩
        rw [← hL] at b0 b1 b2 b3 b4 nl hS hbk hbk1
        have D0 := later_cell b0 hcb
        have D1 := later_cell b1 hcb
        have D2 := later_cell b2 hcb
        have D3 := later_cell b3 hcb
        have D4 := later_cell b4 hcb
        have hfar := fun ww => far_any (xAt X j) (xAt X L) ww
        unfold Ins.val at hfar
        have hfb := farI_bd (xAt X j) (xAt X L)
        have hjl : (j : Int) < X.length := by omega
        have hLl : (L : Int) < X.length := by omega
        have HS2 := hidm hS
        have hzb : ((j : Int) == -1) = false := beq_eq_false_iff_ne.2 (by omega)
        have HLL := hidm hL
        clear hS hca hcd a0 a1 a2 a3 a4 b0 b1 b2 b3 b4 hL
        have C0 := later_cell c0 hbo
        clear c0 hb hz HZ HO HV HS
        generalize hF : fstK X (xAt X L) Z k = f at HS2 hbk
        have HF := hidm hF
        clear hF
        generalize farI (xAt X j) (xAt X L) = d at HS2 hfb hfar hbk1
        haveI := Later.ne wr
        obtain ⟨u1, eu⟩ := later_start wr
        rw [← eu]
        clear eu
        go_wp2
        refine wp_region_later (by kernel_rfl) (by kernel_rfl) ?_
        repeat (go_big_quiet_step (first | (go_at_call 36; exact later_of (hfar _))))
        refine wpQuiet_nil ?_
        rintro _ ⟨u2, rfl⟩
        have hB3 := btrans hB u2.is_
        clear A0 A1 A2 A3 A4 D0 D1 D2 D3 D4 C0 hfar
        generalize u2.at_ = w3 at hB3 ⊢
        by_cases hd : 0 < d
        · go_wp2
          go_roundw
          case rel => exact ⟨k + 1, by omega, by go_num, by rw [← HLL.out, HS2.out, if_pos hd, HF.out], hB3⟩
          case measure => simp [intOf]; omega
        · obtain rfl : d = 0 := by omega
          go_wp2
          go_roundw
          case rel => exact ⟨k + 1, by omega, by go_num, by rw [← HLL.out, HS2.out, if_neg hd, HF.out], hB3⟩
          case measure => simp [intOf]; omega
    · obtain rfl : k = Z.length := by omega
      go_wp2
      go_ret
      exact ⟨rfl, hB⟩
end
section
set_option linter.unusedVariables false
open Go.ChangeShapes Go.WideShapes Go.ChangeAt Go.RowKit

/-- The first place of the last one, behind an order of the others. -/
def fstN (X : List Ins) (Z : List Int) : Nat := (fstK X (xAt X (X.length - 1)) Z Z.length).toNat
def padZ (X : List Ins) (Z : List Int) : List Int := Z ++ List.replicate (fstN X Z - Z.length) (-1)
def layG (X : List Ins) (Z : List Int) : List Int :=
  if 0 < Z.length ∧ fstN X Z ≤ Z.length - 1 ∧ (xAt X (lastI Z).toNat).late = false then Z.take (Z.length - 1) ++ [((X.length - 1 : Nat) : Int), lastI Z] else padZ X Z ++ [((X.length - 1 : Nat) : Int), -1]
theorem fstN_eq (X : List Ins) (Z : List Int) : fstK X (xAt X (X.length - 1)) Z Z.length = (fstN X Z : Int) := by
  unfold fstN
  have := fstK_bd X (xAt X (X.length - 1)) Z Z.length
  omega
theorem fstN_le (X : List Ins) (Z : List Int) : fstN X Z ≤ Z.length + 1 := by
  unfold fstN
  have := fstK_bd X (xAt X (X.length - 1)) Z Z.length
  omega
theorem own_ints {n : Nat} {W : World} {v : Value} {L : List Int} (h : OwnI n W v L) : Ints .i64 W v L := ints_of_row h
/-- A row cut to its first elements. -/
theorem own_take {n₀ : Nat} {W : World} {g n cap k : Nat} {L : List Int} (h : OwnI n₀ W (.slice (some ⟨g, 0, none⟩) n cap) L) (hn : n = L.length) (hk : k ≤ n) : OwnI n₀ W (.slice (some ⟨g, 0, none⟩) k cap) (L.take k) := by
  obtain ⟨h0, h⟩ := h
  have e1 : (L.take k).length = k := by simp; omega
  refine ⟨by simp, ?_⟩
  rcases h with ⟨q, _⟩ | ⟨g', cap', cur, q, r1, r2, r3, r4, r5, r6⟩
  · cases q
  · cases q
    rw [e1]
    refine .inr ⟨g, cap, cur, rfl, r1, r2, by omega, r4, r5, ?_⟩
    have e2 : cur.toList.take (k * 1) = (cur.toList.take (L.length * 1)).take (k * 1) := by rw [List.take_take]; congr 1; omega
    rw [e2, r6, Nat.mul_one, List.map_take]

set_option maxHeartbeats 4000000 in
theorem laygo_any (X : List Ins) (Z : List Int) (v vo : Value) (n₀ : Nat) (w : World) (h0 : 0 < X.length) (hX : X.length ≤ 1000) (hZ : Z.length ≤ 5000) (hz : ∀ i, i < Z.length → Z.getD i 0 = -1 ∨ ∃ j : Nat, Z.getD i 0 = j ∧ j < X.length) (hlast : 0 < Z.length → ∃ j : Nat, lastI Z = j ∧ j < X.length) (hb : n₀ ≤ w.heap.size) (hv : Code w v X) (hvl : ∀ b o n c, v = .slice (some ⟨b, o, none⟩) n c → b < n₀) (ho : OwnI n₀ w vo Z) :
    Calls Try.prog 26 #[v, vo] w fun e W' => ∃ v', e = .returned v' ∧ OwnI n₀ W' v' (layG X Z) ∧ Kept (fun k _ => n₀ ≤ k) w W' := by
  have hf := first_any X Z v vo w h0 hX (by omega) hz hv (own_ints ho)
  rw [fstN_eq] at hf
  have hfl := fstN_le X Z
  have HG : layG X Z = if 0 < Z.length ∧ fstN X Z ≤ Z.length - 1 ∧ (xAt X (lastI Z).toNat).late = false then Z.take (Z.length - 1) ++ [((X.length - 1 : Nat) : Int), lastI Z] else padZ X Z ++ [((X.length - 1 : Nat) : Int), -1] := rfl
  have HPZ : padZ X Z = Z ++ List.replicate (fstN X Z - Z.length) (-1) := rfl
  rw [HPZ] at HG
  clear HPZ
  obtain ⟨ao, cap, hvo⟩ := ownI_form ho
  subst hvo
  have HO := hidm ho
  obtain ⟨i0, hi, hz0, hz1, hz2⟩ := info_parts intInfo
  obtain ⟨av, cv, rfl, hcd⟩ := hv
  obtain ⟨cb, co, rfl, hcb, hca⟩ := hcd h0
  have hcb0 := hvl cb co _ _ rfl
  clear hcd hz hvl ho
  generalize fstN X Z = f at *
  obtain ⟨L, hL⟩ : ∃ L : Nat, L = X.length - 1 := ⟨_, rfl⟩
  have nl : ((X.length : Int) - 1) = (L : Int) := by omega
  rw [← hL] at HG
  have HL := hidm hL
  have HGG := hidm HG
  clear hL HG
  go_enter Try.func26, Try.ntmps26
  go_wp2_with (go_at_call 44; refine hf.mono ?_; rintro e w1 ⟨rfl, b1⟩)
  have HO1 := hidm (ownI_kept HO.out (Kept.of_bel (S := fun _ _ => False) b1) (fun _ _ _ _ s => s))
  clear HO hf
  go_loopw [1] (fun o wr => ∃ p : Nat, Z.length + p ≤ max Z.length f ∧ OwnI n₀ wr o (Z ++ List.replicate p (-1)) ∧ Kept (fun k _ => n₀ ≤ k) w wr) (fun o _ => f - lenOf o)
  case atStart => exact ⟨0, by omega, by simpa using HO1.out, Kept.of_bel b1⟩
  case round =>
    obtain ⟨p, hp, hO, hK⟩ := hrel
    rename World => wr
    obtain ⟨ao2, cap2, q⟩ := ownI_form hO
    subst q
    have hlen : (Z ++ List.replicate p (-1 : Int)).length = Z.length + p := by simp
    have hws := hK.size
    by_cases hlt : Z.length + p < f
    · rw [hlen] at hO ⊢
      have HOr := hidm hO
      have hltI : ((Z.length : Int) + p) < f := by omega
      have hltI2 : ((Z.length + p : Nat) : Int) < f := by omega
      go_wp2_with (at_builtin; refine wpList_append_lies _ rfl (.tmp 18) (.tmp 19) 25 rfl n₀ 3 i0 _ 1 8 Try.underlying25 hi hz0 hz1 hz2 rfl (by decide) _ _ _ rfl (HOr.out.alloc _) ⟨wr.heap.size, 0, none⟩ 1 1 [.int .i64 (-1)] rfl rfl (cell_one_new _ _ _) (by intro u hu; simp at hu; subst hu; rfl) (by omega) (by unfold maxLen; omega) (by omega) (by simp; omega) (wr.heap.size + 1) (by simp) ?_; intro gg cap1 w4 hown1 hgrow hat hlt1)
      have e1 : Z ++ List.replicate (p + 1) (-1 : Int) = (Z ++ List.replicate p (-1)) ++ [-1] := by rw [List.replicate_succ', List.append_assoc]
      go_roundw
      case rel => exact ⟨p + 1, by omega, by
          rw [e1]
          unfold OwnI
          rw [List.length_append, List.map_append]
          rw [hlen] at hown1 ⊢
          exact hown1, hK.trans ((Kept.alloc _ _ _).trans (Kept.grown hgrow fun k o e _ => (ownI_block HOr.out k e).1))⟩
      case measure => simp only [lenOf]; omega
    · have hpf : p = f - Z.length := by omega
      by_cases hA : 0 < Z.length ∧ f ≤ Z.length - 1
      · obtain rfl : p = 0 := by omega
        have hZ0 : Z ++ List.replicate 0 (-1 : Int) = Z := by simp
        rw [hZ0] at hO ⊢
        clear hlen
        obtain ⟨j, hj, hjX⟩ := hlast hA.1
        have hres : ∀ b, (xAt X j).late = b → layG X Z = if b = false then Z.take (Z.length - 1) ++ [(L : Int), (j : Int)] else Z ++ [(L : Int), -1] := fun b hb => by
          rw [HGG.out, hj, Int.toNat_natCast, hb, show f - Z.length = 0 by omega, hZ0]
          cases b
          · rw [if_pos ⟨hA.1, hA.2, rfl⟩, if_pos rfl]
          · rw [if_neg (fun q => by cases q.2.2), if_neg (by simp)]
        obtain ⟨_, _, e5, hcz⟩ := own_ints hO
        cases e5
        obtain ⟨bo, oo, rfl, hbo, hcz⟩ := hcz hA.1
        obtain ⟨E, hE⟩ := Nat.exists_eq_succ_of_ne_zero (Nat.ne_of_gt hA.1)
        rw [Nat.succ_eq_add_one] at hE
        have c0 := hcz E (by omega)
        have ec : Z[E]?.getD 0 = (j : Int) := by
          rw [← hj]
          unfold lastI
          rw [hE, Nat.add_sub_cancel]
          rfl
        rw [ec] at c0
        have hoo : oo = 0 := by
          rcases hO.2 with ⟨q, _⟩ | ⟨_, _, _, q, _⟩
          · cases q
          · cases q; rfl
        subst hoo
        rw [Nat.zero_add] at c0
        obtain ⟨a0, a1, a2, a3, a4⟩ := hca j hjX
        rw [show X.getD j Ins.zero = xAt X j from rfl] at a0 a1 a2 a3 a4
        have ks : ∀ q o, q < n₀ → wr.cell? ⟨q, o, none⟩ = w.cell? ⟨q, o, none⟩ := fun q o hq => by
          have e := Array.getElem?_eq_getElem (show q < w.heap.size by omega)
          exact World.cell?_of_block ((hK.block q _ e (by omega)).trans e.symm)
        rw [← ks _ _ hcb0] at a0 a1 a2 a3 a4
        have hlate : ∀ ww, Calls Try.prog 27 #[(xAt X j).val] ww fun e w2 => e = .returned (.bool (xAt X j).late) ∧ Bel ww w2 := fun ww => late_any (xAt X j).o (xAt X j).a (xAt X j).b (xAt X j).c (xAt X j).i ww
        unfold Ins.val at hlate
        have hjl : (j : Int) < X.length := by omega
        have hfE : ¬ ((f : Int) > (E : Int)) := by omega
        have hfE2 : (f : Int) ≤ (E : Int) := by omega
        have HK := hidm hK
        have HOr := hidm hO
        have HJ := hidm hj
        have HE := hidm hE
        have hEI : (Z.length : Int) = (E : Int) + 1 := by omega
        have hEl : (E : Int) < Z.length := by omega
        clear hO hcz hca ks hK hj ec hZ0 HGG hpf hE
        cases hbl : (xAt X j).late with
        | true =>
          rw [hbl] at hlate
          have hr := hres true hbl
          rw [if_neg (by simp)] at hr
          have HRES := hidm hr
          clear hres hr hbl
          go_wp2_with (first
            | (have q := b3; at_builtin; refine wpList_append_lies _ rfl (.tmp 37) (.tmp 39) 25 rfl n₀ 3 i0 _ 1 8 Try.underlying25 hi hz0 hz1 hz2 rfl (by decide) _ _ _ rfl (HO3.out.alloc _) ⟨w3.heap.size, 0, none⟩ 2 2 [.int .i64 L, .int .i64 (-1)] rfl rfl (World.news_of_block (cs := #[.int .i64 L, .int .i64 (-1)]) (t := 3) (fr := (0, 0)) (heap_alloc_new w3 _)) (by simp [Value.oneCell']) (by omega) (by unfold maxLen; omega) (by omega) (by have := b3.size; simp; omega) (w3.heap.size + 1) (by simp) ?_; intro gg cap1 w4 hown1 hgrow hat hlt1)
            | (go_at_call 27; refine (hlate _).mono ?_; rintro e w3 ⟨rfl, b3⟩; have HO3 := hidm (ownI_kept HOr.out (Kept.of_bel (S := fun _ _ => False) b3) (fun _ _ _ _ s => s))))
          go_ret
          refine ⟨_, rfl, ?_, (HK.out.trans (Kept.of_bel b3)).trans ((Kept.alloc _ _ _).trans (Kept.grown hgrow fun k o e _ => (ownI_block HO3.out k e).1))⟩
          rw [HRES.out]
          unfold OwnI
          rw [List.length_append, List.map_append]
          exact hown1
        | false =>
          rw [hbl] at hlate
          have hr := hres false hbl
          rw [if_pos rfl] at hr
          have HRES := hidm hr
          clear hres hr hbl
          go_wp2_with (go_at_call 27; refine (hlate _).mono ?_; rintro e w3 ⟨rfl, b3⟩; have c3 := ((bcell b3).1 _ _ hbo).trans c0; have HO3 := hidm (ownI_kept HOr.out (Kept.of_bel (S := fun _ _ => False) b3) (fun _ _ _ _ s => s)); have hb3 := b3.size; have hbo3 : bo < w3.heap.size := (by omega))
          have HT3 := hidm (own_take HO3.out rfl (k := E) (by have := HE.out; omega))
          have hEc : E ≤ cap2 := by
            have := HE.out
            rcases HO3.out.2 with ⟨q, _⟩ | ⟨_, _, _, q, _, _, q2, _⟩
            · cases q
            · cases q; omega
          have hEcI : (E : Int) ≤ cap2 := by omega
          have hElN : E < Z.length := by have := HE.out; omega
          have hEl2 : (E : Int) < (Z.length : Int) := by omega
          clear hEI hEl
          have hEk : (Z.take E).length = E := by have := HE.out; simp; omega
          go_region_law
            ((refine step_append_lies _ (by rfl) _ _ _ (by rfl) n₀ 3 i0 _ 1 8 Try.underlying25 hi hz0 hz1 hz2 rfl (by omega) (.slice (some ⟨bo, 0, none⟩) E cap2) E ((Z.take E).map (Value.int .i64)) (by rfl) (by have := (HT3.out.alloc (.cells #[.int .i64 L, .int .i64 j] 3)).drew; rw [hEk] at this; exact this)
                ⟨w3.heap.size, 0, none⟩ 2 2 [.int .i64 L, .int .i64 j] (by rfl) (by rfl) (World.news_of_block (cs := #[.int .i64 L, .int .i64 j]) (t := 3) (fr := (0, 0)) (heap_alloc_new w3 _)) (by simp [Value.oneCell'])
                (by omega) (by unfold maxLen; omega) (by omega) (by simp; omega) (w3.heap.size + 1) (by simp) ?_; intro gg cap1 w4 hown1 hgrow hat hlt1))
          all_goals
            go_wp2
            go_ret
            refine ⟨_, rfl, ?_, (HK.out.trans (Kept.of_bel b3)).trans (((Kept.alloc _ _ _).trans (Kept.drew _ _)).trans (Kept.grown hgrow fun k o e _ => (ownI_block HT3.out k e).1))⟩
            rw [HRES.out]
            have e9 : Z.length - 1 = E := Nat.sub_eq_of_eq_add HE.out
            rw [e9]
            unfold OwnI
            rw [List.length_append, List.map_append, hEk]
            exact hown1
      · rw [hlen] at hO ⊢
        have HOr := hidm hO
        have hgtI : (Z.length : Int) + p - 1 < f := by omega
        have hres : layG X Z = (Z ++ List.replicate p (-1)) ++ [(L : Int), -1] := by rw [HGG.out, if_neg (fun q => hA ⟨q.1, q.2.1⟩), hpf]
        have HRES := hidm hres
        clear HGG hres hpf
        go_wp2_with (at_builtin; refine wpList_append_lies _ rfl (.tmp 37) (.tmp 39) 25 rfl n₀ 3 i0 _ 1 8 Try.underlying25 hi hz0 hz1 hz2 rfl (by decide) _ _ _ rfl (HOr.out.alloc _) ⟨wr.heap.size, 0, none⟩ 2 2 [.int .i64 L, .int .i64 (-1)] rfl rfl (World.news_of_block (cs := #[.int .i64 L, .int .i64 (-1)]) (t := 3) (fr := (0, 0)) (heap_alloc_new wr _)) (by simp [Value.oneCell']) (by omega) (by unfold maxLen; omega) (by omega) (by simp; omega) (wr.heap.size + 1) (by simp) ?_; intro gg cap1 w4 hown1 hgrow hat hlt1)
        go_ret
        refine ⟨_, rfl, ?_, hK.trans ((Kept.alloc _ _ _).trans (Kept.grown hgrow fun k o e _ => (ownI_block HOr.out k e).1))⟩
        rw [HRES.out]
        have e3 : ((Z ++ List.replicate p (-1)) ++ [(L : Int), -1]).length = Z.length + p + 2 := by simp; omega
        have e4 : ((Z ++ List.replicate p (-1)) ++ [(L : Int), -1]).map (Value.int .i64) = (Z ++ List.replicate p (-1)).map (Value.int .i64) ++ [.int .i64 L, .int .i64 (-1)] := List.map_append
        unfold OwnI
        rw [e3, e4]
        rw [hlen] at hown1
        exact hown1
end
section
set_option linter.unusedVariables false
open Go.ChangeShapes Go.WideShapes Go.ChangeAt Go.RowKit

def Ins.goes (x : Ins) : Bool := goesB x.o x.a x.b x.c x.i
/-- A list as it is laid. -/
def LayS (X : List Ins) (M : List Int) : Prop :=
  (X = [] ∧ M = []) ∨ (0 < X.length ∧ (xAt X (X.length - 1)).goes = true ∧ ∃ Z, OrdS (X.take (X.length - 1)) Z ∧ M = layG X Z) ∨
    (0 < X.length ∧ (xAt X (X.length - 1)).goes = false ∧ ∃ Z, OrdS X Z ∧ M = if (xAt X (lastI Z).toNat).late = true then Z ++ [-1] else Z)
theorem ord_last {X : List Ins} {Z : List Int} (h : OrdS X Z) (h0 : 0 < Z.length) : ∃ j : Nat, lastI Z = j ∧ j < X.length := by
  obtain ⟨h1, h2⟩ := h
  cases h1 using steps_cases with
  | nil => simp at h0
  | @snoc Z x hs hn hb =>
    rw [lastI_snoc]
    rcases hb with ⟨b1, b2⟩ | ⟨j, b1, b2, _⟩
    · obtain ⟨j, hj, hnj⟩ := hn
      subst b1
      exact absurd (stands_free.1 (h2 j hj)) hnj
    · exact ⟨j, b1, b2⟩
theorem ord_places {X : List Ins} {Z : List Int} (h : OrdS X Z) : ∀ i, i < Z.length → Z.getD i 0 = -1 ∨ ∃ j : Nat, Z.getD i 0 = j ∧ j < X.length := fun i hi => by
  by_cases q : Z.getD i 0 = -1
  · exact .inl q
  · have := steps_good h.1 i hi q
    exact .inr ⟨(Z.getD i 0).toNat, by omega, by omega⟩
theorem ord_len {X : List Ins} {Z : List Int} (h : OrdS X Z) : Z.length ≤ 2 * X.length := by
  have h1 := (steps_len h.1).1
  have h2 := (steps_cnt h.1).1
  omega
theorem ord_pos {X : List Ins} {Z : List Int} (h : OrdS X Z) (h0 : 0 < X.length) : 0 < Z.length := by
  have := h.2 0 h0
  obtain ⟨p, hp, _⟩ := where_get this
  omega
theorem code_take {w : World} {b o n c : Nat} {X : List Ins} (hb : b < w.heap.size) (h : CodeAt w b o X) (hn : n ≤ X.length) : Code w (.slice (some ⟨b, o, none⟩) n c) (X.take n) := by
  have e : (X.take n).length = n := by rw [List.length_take]; exact Nat.min_eq_left hn
  refine ⟨_, c, by rw [e], fun _ => ⟨b, o, rfl, hb, fun j hj => ?_⟩⟩
  rw [e] at hj
  have e2 : (X.take n).getD j Ins.zero = X.getD j Ins.zero := by simp [List.getD, hj]
  rw [e2]
  exact h j (by omega)

set_option maxHeartbeats 4000000 in
theorem lay_any (X : List Ins) (v : Value) (w : World) (hX : X.length ≤ 1000) (hv : Code w v X) (hroom : ∀ ao n c, v = .slice ao n c → n ≤ c) :
    Calls Try.prog 15 #[v] w fun e W' => ∃ v' M, e = .returned v' ∧ LayS X M ∧ OwnI w.heap.size W' v' M ∧ Bel w W' := by
  have HV := hidm hv
  obtain ⟨ao, cap, rfl, hcd⟩ := hv
  by_cases h0 : X.length = 0
  · have hXe : X = [] := List.eq_nil_of_length_eq_zero h0
    subst hXe
    clear hcd
    go_enter Try.func15, Try.ntmps15
    go_wp2
    go_ret
    exact ⟨_, [], rfl, .inl ⟨rfl, rfl⟩, ownI_nil _ _, Bel.refl _⟩
  · obtain ⟨cb, co, rfl, hcb, hca⟩ := hcd (by omega)
    have h0' : 0 < X.length := by omega
    obtain ⟨L, hL⟩ : ∃ L : Nat, L = X.length - 1 := ⟨_, rfl⟩
    have nl : ((X.length : Int) - 1) = (L : Int) := by omega
    have hlb : ((X.length : Int) == 0) = false := beq_eq_false_iff_ne.2 (by omega)
    have hLl : (L : Int) < X.length := by omega
    obtain ⟨x0, x1, x2, x3, x4⟩ := hca L (by omega)
    rw [show X.getD L Ins.zero = xAt X L from rfl] at x0 x1 x2 x3 x4
    have hgo : ∀ ww, Calls Try.prog 25 #[(xAt X L).val] ww fun e w2 => e = .returned (.bool (xAt X L).goes) ∧ Bel ww w2 := fun ww => goes_any (xAt X L).o (xAt X L).a (xAt X L).b (xAt X L).c (xAt X L).i ww
    unfold Ins.val at hgo
    have htk := code_take (n := L) (c := cap) hcb hca (by omega)
    have htl : (X.take L).length = L := by rw [List.length_take]; exact Nat.min_eq_left (by omega)
    have hord1 : ∀ ww, Bel w ww → Calls Try.prog 12 #[.slice (some ⟨cb, co, none⟩) L cap] ww _ := fun ww hb => order_any (X.take L) _ ww (by omega) (code_bel htk hb)
    have hord2 : ∀ ww, Bel w ww → Calls Try.prog 12 #[.slice (some ⟨cb, co, none⟩) X.length cap] ww _ := fun ww hb => order_any X _ ww hX (code_bel HV.out hb)
    have HL := hidm hL
    have hLc : (L : Int) ≤ cap := by have := hroom _ _ _ rfl; omega
    have HCA := hidm hca
    clear hcd hL hca hroom
    obtain ⟨i0, hi, hz0, hz1, hz2⟩ := info_parts intInfo
    cases hg : (xAt X L).goes with
    | true =>
      rw [hg] at hgo
      go_enter Try.func15, Try.ntmps15
      go_wp2_with (first
        | (have q := b2; go_at_call 26; refine (laygo_any X Z _ v2 w.heap.size w2 h0' hX (by have := ord_len hO2; omega) (fun i hi => (ord_places hO2 i hi).imp id (fun ⟨j, q1, q2⟩ => ⟨j, q1, by omega⟩)) (fun q => by obtain ⟨j, q1, q2⟩ := ord_last hO2 q; exact ⟨j, q1, by omega⟩) (by have := b2.size; omega) (code_bel HV.out b2) (fun b o n c e => by cases e; exact hcb) (ownI_low o2 (by have := b1.size; omega))).mono ?_; rintro e w3 ⟨v3, rfl, o3, k3⟩)
        | (have q := b1; go_at_call 12; refine (hord1 w1 b1).mono ?_; rintro e w2 ⟨v2, Z, rfl, hO2, o2, b2'⟩; have b2 := btrans b1 b2')
        | (go_at_call 25; refine (hgo _).mono ?_; rintro e w1 ⟨rfl, b1⟩))
      go_ret
      refine ⟨v3, layG X Z, rfl, .inr (.inl ⟨h0', by rw [← HL.out]; exact hg, Z, by rw [← HL.out]; exact hO2, rfl⟩), o3, b2.kept k3 (fun i _ s => s)⟩
    | false =>
      rw [hg] at hgo
      -- what the order's last place holds, and what lies there
      have hend : ∀ (Z : List Int) (w2 : World) (ao2 : Option Addr) (cap2 : Nat), Bel w w2 → OrdS X Z → OwnI w.heap.size w2 (.slice ao2 Z.length cap2) Z → ∃ (E j bo : Nat), Hid (Z.length = E + 1) ∧ Hid (lastI Z = j) ∧ j < X.length ∧ ao2 = some ⟨bo, 0, none⟩ ∧ bo < w2.heap.size ∧ w2.cell? ⟨bo, E, none⟩ = some (.int .i64 j) := fun Z w2 ao2 cap2 hb hz ho => by
        have h1 := ord_pos hz h0'
        obtain ⟨j, hj, hjX⟩ := ord_last hz h1
        obtain ⟨E, hE⟩ := Nat.exists_eq_succ_of_ne_zero (Nat.ne_of_gt h1)
        obtain ⟨_, _, e5, hcz⟩ := own_ints ho
        cases e5
        obtain ⟨bo, oo, rfl, hbo, hcz⟩ := hcz h1
        have hoo : oo = 0 := by
          rcases ho.2 with ⟨q, _⟩ | ⟨_, _, _, q, _⟩
          · cases q
          · cases q; rfl
        subst hoo
        have c0 := hcz E (by omega)
        rw [Nat.zero_add] at c0
        refine ⟨E, j, bo, hE, hj, hjX, rfl, hbo, c0.trans ?_⟩
        rw [← hj]
        unfold lastI
        rw [hE, Nat.succ_sub_one]
        rfl
      go_enter Try.func15, Try.ntmps15
      have hla : ∀ j ww, Calls Try.prog 27 #[.agg #[.int .i64 (xAt X j).o, .int .i64 (xAt X j).a, .int .i64 (xAt X j).b, .int .i64 (xAt X j).c, .int .i64 (xAt X j).i]] ww fun e w2 => e = .returned (.bool (xAt X j).late) ∧ Bel ww w2 := fun j ww => late_any (xAt X j).o (xAt X j).a (xAt X j).b (xAt X j).c (xAt X j).i ww
      go_wp2_with (first
        | (have q := b3; at_builtin; refine wpList_append_lies _ rfl (.tmp 34) (.tmp 35) 25 rfl w.heap.size 3 i0 _ 1 8 Try.underlying25 hi hz0 hz1 hz2 rfl (by decide) _ _ _ rfl (HO3.out.alloc _) ⟨w3.heap.size, 0, none⟩ 1 1 [.int .i64 (-1)] rfl rfl (cell_one_new _ _ _) (by intro u hu; simp at hu; subst hu; rfl) (by omega) (by unfold maxLen; omega) (by omega) (by have := b3.size; simp; omega) (w3.heap.size + 1) (by simp) ?_; intro gg cap1 w4 hown1 hgrow hat hlt1)
        | (have q := b2; go_at_call 27; refine (hla j _).mono ?_; rintro e w3 ⟨rfl, b3⟩; have HO3 := hidm (ownI_kept HOO.out (Kept.of_bel (S := fun _ _ => False) b3) (fun _ _ _ _ s => s)))
        | (have q := b1; go_at_call 12; refine (hord2 w1 b1).mono ?_; rintro e w2 ⟨v2, Z, rfl, hO2, o2', b2'⟩; have b2 := btrans b1 b2'; have o2 := ownI_low o2' b1.size; obtain ⟨ao2, cap2, q⟩ := ownI_form o2; subst q; obtain ⟨E, j, bo, HE, HJ, hjX, q7, hbo, c0⟩ := hend Z w2 ao2 cap2 b2 hO2 o2; subst q7; obtain ⟨y0, y1, y2, y3, y4⟩ := (HCA.out.stay hcb b2) j hjX; rw [show X.getD j Ins.zero = xAt X j from rfl] at y0 y1 y2 y3 y4; have hEI : (Z.length : Int) - 1 = (E : Int) := (by have := HE.out; omega); have hEl : (E : Int) < Z.length := (by omega); have hjl : (j : Int) < X.length := (by omega); have hzl := ord_len hO2; have HO2 := hidm hO2; have HOO := hidm o2; have hs2 := b2.size; clear hO2 o2 o2')
        | (go_at_call 25; refine (hgo _).mono ?_; rintro e w1 ⟨rfl, b1⟩))
      · go_ret
        refine ⟨_, Z ++ [-1], rfl, .inr (.inr ⟨h0', by rw [← HL.out]; exact hg, Z, HO2.out, ?_⟩), ?_, ((btrans b2 b3).alloc _).grown hgrow (fun k e => (ownI_block HO3.out k e).1)⟩
        · rw [HJ.out, Int.toNat_natCast]
          simp [*]
        · unfold OwnI
          rw [List.length_append, List.map_append]
          exact hown1
      · go_ret
        refine ⟨_, Z, rfl, .inr (.inr ⟨h0', by rw [← HL.out]; exact hg, Z, HO2.out, ?_⟩), ownI_kept HOO.out (Kept.of_bel (S := fun _ _ => False) b3) (fun _ _ _ _ s => s), btrans b2 b3⟩
        rw [HJ.out, Int.toNat_natCast]
        simp [*]
end
end Go.Proofs.Ytpmofaajkhllpaa
