/-
  The contract of package text's Text.
-/
import Derived.Test.YtbkmdmmcjaanmaaDoorFmt
import Derived.Deep.AppendLies
namespace Go.Proofs.YtbkmdmmcjaanmaaDoor
set_option maxRecDepth 20000
open Go.ChangeShapes Go.WideShapes Go.ChangeAt Go.RowKit
open Go.Lib hiding intOf

theorem ret_str {a b : ByteArray} (h : a = b) : Ending.returned (.string a) = .returned (.string b) := by rw [h]
theorem strInfo : (Tryd.prog.info? 9).map (fun i => (i.zero, i.size, i.bytes)) = some (some (.string ByteArray.empty), 1, 16) := by kernel_rfl
theorem regs_bd (op : Int) : 0 ≤ regsOf op ∧ regsOf op ≤ 3 := by unfold regsOf; omega
set_option maxHeartbeats 1000000 in
theorem text_no (op a b c imm : Int) (w : World) (hr : rightB op a b c imm = false) :
    Calls Tryd.prog 9 #[.agg #[.int .i64 op, .int .i64 a, .int .i64 b, .int .i64 c, .int .i64 imm]] w fun e w' => e = .returned (.string (bs (textL op a b c imm))) ∧ Bel w w' := by
  have ht : Hid (textL op a b c imm = []) := by show textL op a b c imm = []; unfold textL; rw [hr]; rfl
  go_enter Tryd.func9, Tryd.ntmps9
  go_wp2_with (go_at_call 17; refine (right_any _ _ _ _ _ _).mono ?_; rintro e w1 ⟨rfl, b1⟩; rw [hr])
  go_ret
  exact ⟨ret_str (by rw [ht.out]; rfl), btrans ((Bel.refl w).alloc _) b1⟩

theorem own_below {w w' : World} {B : Nat} {e : TypeId} {k n : Nat} {v : Value} {xs : List Value} (h : w.ownsRow B e k v n xs) (hb : Bel w w') : w'.ownsRow B e k v n xs := by
  obtain ⟨h1, h2⟩ := h
  refine ⟨h1, ?_⟩
  rcases h2 with h2 | ⟨g, cap, cur, e1, e2, e3, r⟩
  · exact Or.inl h2
  · have hlt : g < w.heap.size := (Array.getElem?_eq_some_iff.1 e3).1
    exact Or.inr ⟨g, cap, cur, e1, e2, by rw [hb.out.block g hlt]; exact e3, r⟩
theorem add_bs {x y : ByteArray} {a b : List UInt8} (hx : x = bs a) (hy : y = bs b) (h : a.length + b.length ≤ 1000000) : ∀ w, (Op.stringOp .add x y).run Tryd.prog w = .ok (.string (bs (a ++ b))) w := by
  intro w
  rw [hx, hy, run_string_add_sum w _ _ (by rw [bs_size, bs_size]; omega), bs_append]
def strV (l : List UInt8) : Value := .string (bs l)
theorem strs_view {w : World} {base n : Nat} {v : Value} {ps : List (List UInt8)} (h : w.ownsRow base 9 1 v n (ps.map strV)) (hn : 0 < n) :
    ∃ g cap, v = .slice (some ⟨g, 0, none⟩) n cap ∧ base ≤ g ∧ g < w.heap.size ∧ n ≤ cap ∧ ps.length = n ∧ ∀ j x, (ps.map bs)[j]? = some x → w.cell? ⟨g, j, none⟩ = some (.string x) := by
  have hlen : ps.length = n := by have := h.1; simpa using this
  obtain ⟨g, cap, rfl, hb, hlt⟩ := h.form hn
  have hc := h.cells (g := g) rfl
  refine ⟨g, cap, rfl, hb, hlt, ?_, hlen, fun j x hj => ?_⟩
  · rcases h.2 with ⟨h1, _⟩ | ⟨g', cap', cur, h1, _, _, h2, _⟩
    · cases h1
    · cases h1; exact h2
  · have := hc j (.string x) (by rw [List.getElem?_map] at hj ⊢; cases hp : ps[j]? with
      | none => simp [hp] at hj
      | some l => simp [hp] at hj; simp [strV, hj])
    rwa [show (⟨g, 0, none⟩ : Addr).add j = ⟨g, j, none⟩ from by unfold Addr.add; split <;> simp_all] at this
theorem own_nil {w : World} {base : Nat} {v : Value} {e : TypeId} {k : Nat} {xs : List Value} (h : w.ownsRow base e k v 0 xs) : ∃ a cap, v = .slice a 0 cap := by
  rcases h.2 with ⟨h1, _⟩ | ⟨g', cap', cur, h1, _⟩
  · exact ⟨_, _, h1⟩
  · exact ⟨_, _, h1⟩
theorem join_any (ps : List (List UInt8)) (g n cap : Nat) (w : World) (hn : ps.length = n) (hc : ∀ j x, (ps.map bs)[j]? = some x → w.cell? ⟨g, j, none⟩ = some (.string x)) (hg : g < w.heap.size) (hcap : n ≤ cap) (hlen : (join ps [44]).length ≤ 1000) (h3 : n ≤ 1000) :
    Calls Tryd.prog 20 #[.slice (some ⟨g, 0, none⟩) n cap, .string ⟨#[44]⟩] w fun e w' => e = .returned (.string (bs (join ps [44]))) ∧ Bel w w' := by
  have e : (ps.map bs).map (·.data.toList) = ps := by
    rw [List.map_map]
    have h := List.map_congr_left (l := ps) (f := (fun x : ByteArray => x.data.toList) ∘ bs) (g := id) (fun l _ => bs_list l)
    rw [List.map_id] at h
    exact h
  have h := Tryd.strings_Join g 0 cap (ps.map bs) ⟨#[44]⟩ w (by simpa using hc) hg (by simp; omega) (by simp; omega) (by rw [e]; exact Nat.le_trans hlen (by omega))
  rw [e, List.length_map, hn] at h
  exact h
theorem slice3 (R F : Nat) (h : R ≤ 3) (w : World) : (Instr.sliceAt 40 (.pointer (some ⟨F, 0, none⟩)) none (some (.int .i64 R)) none).run Tryd.prog w = .ok (.slice (some ⟨F, 0, none⟩) R 3) w := by
  have g : ∀ x : Int, 0 ≤ x → x ≤ 3 → (Instr.sliceAt 40 (.pointer (some ⟨F, 0, none⟩)) none (some (.int .i64 x)) none).run Tryd.prog w = .ok (.slice (some ⟨F, 0, none⟩) x.toNat 3) w := by
    intro x h0 h3
    go_simp
  exact g R (by omega) (by omega)
theorem tx_none {op a b c imm : Int} (h : rightB op a b c imm = true) (hp : partsL op a b c imm = []) : bs (nameL op) = bs (textL op a b c imm) := by
  unfold textL txtL; rw [if_pos h, if_pos hp]
theorem tx_some {op a b c imm : Int} (h : rightB op a b c imm = true) (hp : partsL op a b c imm ≠ []) : bs (nameL op ++ 32 :: join (partsL op a b c imm) [44]) = bs (textL op a b c imm) := by
  unfold textL txtL; rw [if_pos h, if_neg hp]
def regK (a b c : Int) (k : Nat) : Int := if k = 0 then a else if k = 1 then b else c
theorem take_reg {a b c : Int} {k : Nat} (h : k < 3) : ([a, b, c].take (k + 1)).map regL = ([a, b, c].take k).map regL ++ [regL (regK a b c k)] := by
  have : k = 0 ∨ k = 1 ∨ k = 2 := by omega
  rcases this with rfl | rfl | rfl <;> rfl
set_option maxHeartbeats 2000000 in
set_option maxRecDepth 20000 in
theorem text_yes (op a b c imm : Int) (w : World) (g : Gl w) (hr : rightB op a b c imm = true) :
    Calls Tryd.prog 9 #[.agg #[.int .i64 op, .int .i64 a, .int .i64 b, .int .i64 c, .int .i64 imm]] w fun e w' => e = .returned (.string (bs (textL op a b c imm))) ∧ Bel w w' := by
  obtain ⟨i0, hi, hz0, hz1, hz2⟩ := info_parts strInfo
  obtain ⟨R, hR, hR3⟩ : ∃ R : Nat, regsOf op = (R : Int) ∧ R ≤ 3 := ⟨(regsOf op).toNat, by have := regs_bd op; omega, by have := regs_bd op; omega⟩
  obtain ⟨b1, b2, b3, b4, b5, b6, b7, b8, b9, b10⟩ := right_bd hr
  have hnm := (name_facts (op := op) ⟨b1, b2⟩).2.2.2
  have htl := text_len op a b c imm
  have hRb : ∀ k : Nat, 0 ≤ regK a b c k ∧ regK a b c k ≤ 31 := by intro k; unfold regK; split <;> (try split) <;> omega
  have hP : Hid (partsL op a b c imm = ([a, b, c].take R).map regL ++ if immB op then [itoa imm] else []) := by show _ = _; unfold partsL; rw [hR]; rfl
  have hsl : ∀ F w, _ := fun F w => slice3 R F hR3 w
  go_enter Tryd.func9, Tryd.ntmps9
  go_wp2_with fail
  have hB : Bel w (w.alloc (Obj.cells #[.int .i64 op, .int .i64 a, .int .i64 b, .int .i64 c, .int .i64 imm] 23)) := (Bel.refl w).alloc _
  obtain ⟨c0', c1, c2, c3, c4⟩ := box5 w op a b c imm 23
  have hz := later_size (w := w.alloc (Obj.cells #[.int .i64 op, .int .i64 a, .int .i64 b, .int .i64 c, .int .i64 imm] 23)) (n := w.heap.size) (by simp)
  generalize w.alloc (Obj.cells #[.int .i64 op, .int .i64 a, .int .i64 b, .int .i64 c, .int .i64 imm] 23) = w1 at hB c0' c1 c2 c3 c4 hz ⊢
  haveI := Later.ne w1
  obtain ⟨u1, e0⟩ := later_start w1
  rw [← e0]
  clear e0
  go_wp2_with (first | (go_at_call 17; refine (later_of (right_any _ _ _ _ _ _)).mono ?_; rintro e _ ⟨rfl, u2, rfl⟩; rw [hr]) | (go_at_call 18; refine (later_of (form_any _ _)).mono ?_; rintro e _ ⟨rfl, u3, rfl⟩; rw [hR]))
  have hB3 : Bel w ((u3.at_.alloc (Obj.cells #[.string (bs (nameL op)), .int .i64 R, .bool (immB op)] 37)).alloc (Obj.cells #[.int .i64 a, .int .i64 b, .int .i64 c] 40)) := ((btrans hB u3.is_).alloc _).alloc _
  have d4 := later_down (((Bel.refl u3.at_).alloc (Obj.cells #[.string (bs (nameL op)), .int .i64 R, .bool (immB op)] 37)).alloc (Obj.cells #[.int .i64 a, .int .i64 b, .int .i64 c] 40)) (p := fun x => x.cell? ⟨w.heap.size, 4, none⟩ = some (Value.int IntKind.i64 imm)) (later_down u3.is_ (p := fun x => x.cell? ⟨w.heap.size, 4, none⟩ = some (Value.int IntKind.i64 imm)) c4)
  have f0 : ∀ u : Later ((u3.at_.alloc (Obj.cells #[.string (bs (nameL op)), .int .i64 R, .bool (immB op)] 37)).alloc (Obj.cells #[.int .i64 a, .int .i64 b, .int .i64 c] 40)), u.at_.cell? ⟨u3.at_.heap.size, 0, none⟩ = some (.string (bs (nameL op))) := later_cell (by go_simp) (by simp; omega)
  have f2 : ∀ u : Later ((u3.at_.alloc (Obj.cells #[.string (bs (nameL op)), .int .i64 R, .bool (immB op)] 37)).alloc (Obj.cells #[.int .i64 a, .int .i64 b, .int .i64 c] 40)), u.at_.cell? ⟨u3.at_.heap.size, 2, none⟩ = some (.bool (immB op)) := later_cell (by go_simp) (by simp; omega)
  have r0 : ∀ k : Nat, k < 3 → ∀ u : Later ((u3.at_.alloc (Obj.cells #[.string (bs (nameL op)), .int .i64 R, .bool (immB op)] 37)).alloc (Obj.cells #[.int .i64 a, .int .i64 b, .int .i64 c] 40)), u.at_.cell? ⟨u3.at_.heap.size + 1, k, none⟩ = some (.int .i64 (regK a b c k)) := by
    intro k hk
    have : k = 0 ∨ k = 1 ∨ k = 2 := by omega
    rcases this with rfl | rfl | rfl <;> exact later_cell (by go_simp; rfl) (by simp)
  generalize ((u3.at_.alloc (Obj.cells #[.string (bs (nameL op)), .int .i64 R, .bool (immB op)] 37)).alloc (Obj.cells #[.int .i64 a, .int .i64 b, .int .i64 c] 40)) = w2 at hB3 d4 f0 f2 r0 ⊢
  generalize u3.at_.heap.size = F at f0 f2 r0 ⊢
  clear c0' c1 c2 c3 c4 hz hB
  haveI := Later.ne w2
  go_loopw [4, 25] (fun v i wr => ∃ (k : Nat) (u : Later w2), k ≤ R ∧ i = .int .i64 k ∧ u.at_.ownsRow w2.heap.size 9 1 v k ((([a, b, c].take k).map regL).map strV) ∧ wr = u.at_) (fun _ i _ => R - (intOf i).toNat)
  case atStart => exact ⟨0, ⟨w2, Bel.refl _⟩, Nat.zero_le _, rfl, World.ownsRow_nil _ _ _ _, rfl⟩
  case round =>
    obtain ⟨k, u, hk, rfl, hown, rfl⟩ := hrel
    by_cases hlt : k < R
    · have hx := hRb k
      have rk := r0 k (by omega)
      have hl6 := itoa_len (regK a b c k) (by omega) (by omega)
      have hadd := add_bs (x := ⟨#[114]⟩) (y := bs (itoa (regK a b c k))) (a := [114]) rfl rfl (by simp; omega)
      have hTk : Hid _ := take_reg (a := a) (b := b) (c := c) (k := k) (by omega)
      generalize regK a b c k = x at hx rk hl6 hadd hTk
      go_wp2_with (first
        | (go_at_call 19; refine (itoa_any _ _ (g.stay (btrans hB3 u.is_)) (by omega) (by omega)).mono ?_; rintro e w4 ⟨rfl, h4⟩; have hown4 := own_below hown h4; have hs4 := h4.size; have hs5 := u.is_.size)
        | (at_builtin; refine wpList_append_own _ rfl (.tmp 29) (.tmp 33) 39 rfl w2.heap.size 9 i0 (.string ByteArray.empty) 1 16 Tryd.underlying39 hi hz0 hz1 hz2 rfl (by decide) _ k _ rfl (hown4.alloc _) ⟨w4.heap.size, 0, none⟩ 1 1 [strV (regL x)] rfl rfl (by intro j u hj; match j, hj with | 0, hj => (simp at hj; subst hj; simp [Addr.add]; rfl)) (by intro u hu; simp at hu; subst hu; rfl) (by unfold maxLen; omega) (by omega) (by simp; omega) ?_; intro v1 w5 hown1 hgrow1 _))
      go_roundw
      case rel => exact ⟨k + 1, ⟨w5, ((btrans u.is_ h4).alloc _).grown hgrow1 (fun j hj => (hown.lt j hj).1)⟩, by omega, by go_num, by rw [hTk.out, List.map_append]; exact hown1, rfl⟩
      case measure => simp [intOf]; omega
    · have hkR : R = k := by omega
      subst hkR
      have hadd2 := add_bs (x := bs (nameL op)) (y := ⟨#[32]⟩) (a := nameL op) (b := [32]) rfl rfl (by simp; omega)
      have hadd3 : (join (partsL op a b c imm) [44]).length ≤ 24 → ∀ w, (Op.stringOp .add (bs (nameL op ++ [32])) (bs (join (partsL op a b c imm) [44]))).run Tryd.prog w = .ok (.string (bs (nameL op ++ [32] ++ join (partsL op a b c imm) [44]))) w := fun hj => add_bs rfl rfl (by simp; omega)
      have hjl : partsL op a b c imm ≠ [] → (join (partsL op a b c imm) [44]).length ≤ 24 := fun hp => by
        have := htl
        unfold textL txtL at this
        rw [if_pos hr, if_neg hp] at this
        simp at this
        omega
      have hBu := btrans hB3 u.is_
      have f0' := later_down u.is_ (p := fun x => x.cell? ⟨F, 0, none⟩ = some (.string (bs (nameL op)))) f0
      cases hI : immB op with
      | false =>
        have hQ : Hid (partsL op a b c imm = ([a, b, c].take R).map regL) := by show _ = _; rw [hP.out, hI]; simp
        by_cases h0 : R = 0
        · subst h0
          obtain ⟨ao, cap, rfl⟩ := own_nil hown
          go_wp2
          go_ret
          exact ⟨ret_str (tx_none hr (by rw [hQ.out]; rfl)), hBu⟩
        · have hne : Hid (partsL op a b c imm ≠ []) := by
            show _ ≠ _
            intro hp
            rw [hQ.out] at hp
            have := congrArg List.length hp
            simp at this
            omega
          have hadd3' := hadd3 (hjl hne.out)
          have hjl' := hjl hne.out
          rw [← hQ.out] at hown
          obtain ⟨G, cap, rfl, g1, g2, g3, g4, g5⟩ := strs_view hown (by omega)
          have f2' := f2 u
          rw [hI] at f2'
          have hfin : Hid _ := tx_some hr hne.out
          generalize partsL op a b c imm = ps at hadd3' hjl' g4 g5 hfin
          clear hadd3 hjl hP hQ hne hown f0 f2 r0 d4
          generalize u.at_ = w3 at hBu f0' f2' g2 g5 ⊢
          have hj : ∀ x : Later w3, Calls Tryd.prog 20 #[.slice (some ⟨G, 0, none⟩) R cap, .string ⟨#[44]⟩] x.at_ fun e w' => e = .returned (.string (bs (join ps [44]))) ∧ Bel x.at_ w' := fun x =>
            join_any ps G R cap x.at_ g4 (fun j y hy => ((bcell x.is_).1 G j g2).trans (g5 j y hy)) (Nat.lt_of_lt_of_le g2 x.is_.size) g3 (by omega) (by omega)
          have f2'' := later_cell f2' (by
            rcases Nat.lt_or_ge F w3.heap.size with h' | h'
            · exact h'
            · have := f0' ⟨w3, Bel.refl _⟩; simp [World.cell?, Array.getElem?_eq_none h'] at this)
          clear g5 f2'
          haveI := Later.ne w3
          obtain ⟨x1, e1⟩ := later_start w3
          rw [← e1]
          clear e1
          go_wp2_with fail
          refine wp_region_later (by kernel_rfl) (by kernel_rfl) ?_
          repeat (go_big_quiet_step ((go_at_call 20; exact later_of (hj _))))
          refine wpQuiet_nil ?_
          rintro _ ⟨x2, rfl⟩
          go_wp2
          go_ret
          exact ⟨ret_str hfin.out, btrans hBu x2.is_⟩
      | true =>
        have hQ : Hid (partsL op a b c imm = ([a, b, c].take R).map regL ++ [itoa imm]) := by show _ = _; rw [hP.out, hI]; simp
        have hne : Hid (partsL op a b c imm ≠ []) := by
          show _ ≠ _
          intro hp
          rw [hQ.out] at hp
          simp at hp
        have hadd3' := hadd3 (hjl hne.out)
        have hjl' := hjl hne.out
        have f2' := f2 u
        have d4' := d4 u
        rw [hI] at f2'
        have hfin : Hid _ := tx_some hr hne.out
        have hgu := g.stay hBu
        clear hadd3 hjl hP f2 r0 d4 f0'
        have hsz := u.is_.size
        have hw3 := u.is_
        generalize u.at_ = w3 at hBu f2' d4' hown hsz hgu hw3 ⊢
        go_wp2_with (first
          | (go_at_call 19; refine (itoa_any _ _ hgu (by omega) (by omega)).mono ?_; rintro e w4 ⟨rfl, h4⟩; have hown4 := own_below hown h4; have hs4 := h4.size)
          | (at_builtin; refine wpList_append_own _ rfl (.tmp 38) (.tmp 42) 39 rfl w2.heap.size 9 i0 (.string ByteArray.empty) 1 16 Tryd.underlying39 hi hz0 hz1 hz2 rfl (by decide) _ R _ rfl (hown4.alloc _) ⟨w4.heap.size, 0, none⟩ 1 1 [strV (itoa imm)] rfl rfl (by intro j u hj; match j, hj with | 0, hj => (simp at hj; subst hj; simp [Addr.add]; rfl)) (by intro u hu; simp at hu; subst hu; rfl) (by unfold maxLen; omega) (by omega) (by simp; omega) ?_; intro v1 w5 hown1 hgrow1 _; refine Hid.out ?_))
        have hB5 : Bel w2 w5 := ((btrans hw3 h4).alloc _).grown hgrow1 (fun j hj => (hown.lt j hj).1)
        have hB5' := btrans hB3 hB5
        have f0' := later_down hB5 (p := fun x => x.cell? ⟨F, 0, none⟩ = some (.string (bs (nameL op)))) f0
        rw [show List.map strV (List.map regL (List.take R [a, b, c])) ++ [strV (itoa imm)] = (partsL op a b c imm).map strV from by rw [hQ.out, List.map_append]; rfl] at hown1
        obtain ⟨G, cap, rfl, g1, g2, g3, g4, g5⟩ := strs_view hown1 (by omega)
        generalize partsL op a b c imm = ps at hadd3' hjl' g4 g5 hfin
        clear hQ hne hown1 f0 f2' d4' hown hown4 hgrow1 h4 hw3 hBu hsz hs4
        have hj : ∀ x : Later w5, Calls Tryd.prog 20 #[.slice (some ⟨G, 0, none⟩) (R + 1) cap, .string ⟨#[44]⟩] x.at_ fun e w' => e = .returned (.string (bs (join ps [44]))) ∧ Bel x.at_ w' := fun x =>
          join_any ps G (R + 1) cap x.at_ g4 (fun j y hy => ((bcell x.is_).1 G j g2).trans (g5 j y hy)) (Nat.lt_of_lt_of_le g2 x.is_.size) g3 (by omega) (by omega)
        clear g5
        haveI := Later.ne w5
        obtain ⟨x1, e1⟩ := later_start w5
        rw [← e1]
        clear e1
        refine Lib.hid ?_
        go_wp2_with fail
        refine wp_region_later (by kernel_rfl) (by kernel_rfl) ?_
        repeat (go_big_quiet_step ((go_at_call 20; exact later_of (hj _))))
        refine wpQuiet_nil ?_
        rintro _ ⟨x2, rfl⟩
        go_wp2
        go_ret
        exact ⟨ret_str hfin.out, btrans hB5' x2.is_⟩
end Go.Proofs.YtbkmdmmcjaanmaaDoor
