/-
  The contract of the reference's number of layer 4: the walk.
-/
import Derived.Test.YtbkmdmmcjaanmaaDoorNum
namespace Go.Proofs.YtbkmdmmcjaanmaaDoor
set_option maxRecDepth 20000
open Go.ChangeShapes Go.WideShapes Go.ChangeAt Go.RowKit
open Go.Lib hiding intOf

theorem ret_ii {a b c d : Int} (h : a = b) (h' : c = d) : Ending.returned (.tuple #[.int .i64 a, .int .i64 c]) = .returned (.tuple #[.int .i64 b, .int .i64 d]) := by rw [h, h']
theorem val_zero (D : List UInt8) : valOf 0 (D.take 0) = 0 := rfl
theorem numR_minus (S : ByteArray) (p : Nat) (h : p < S.size) (hm : S[p].toNat = 45) :
    numR S.data.toList p = if (digsOf (S.data.toList.drop (p + 1))).length = 0 then (0, -1) else (-(valOf 0 (digsOf (S.data.toList.drop (p + 1))) : Int), p + 1 + ((digsOf (S.data.toList.drop (p + 1))).length : Int)) := by
  have hh : (S.data.toList.drop p).head? = some 45 := by
    rw [List.head?_drop, get_at S p h]
    congr 1
    exact UInt8.toNat_inj.1 hm
  have ht : (S.data.toList.drop p).tail = S.data.toList.drop (p + 1) := by rw [List.tail_drop]
  unfold numR numAt
  rw [if_pos hh, ht]
  generalize digsOf (S.data.toList.drop (p + 1)) = D
  cases D with
  | nil => rfl
  | cons b r => simp; omega
theorem numR_plain (S : ByteArray) (p : Nat) (hm : ∀ h : p < S.size, S[p].toNat ≠ 45) :
    numR S.data.toList p = if (digsOf (S.data.toList.drop p)).length = 0 then (0, -1) else ((valOf 0 (digsOf (S.data.toList.drop p)) : Int), p + ((digsOf (S.data.toList.drop p)).length : Int)) := by
  have hh : (S.data.toList.drop p).head? ≠ some 45 := by
    rw [List.head?_drop]
    rcases Nat.lt_or_ge p S.size with h | h
    · rw [get_at S p h]
      intro e
      injection e with e
      exact hm h (by rw [e]; rfl)
    · rw [List.getElem?_eq_none (by simpa using h)]; simp
  unfold numR numAt
  rw [if_neg hh]
  generalize digsOf (S.data.toList.drop p) = D
  cases D with
  | nil => rfl
  | cons b r => simp
set_option maxHeartbeats 4000000 in
set_option maxRecDepth 20000 in
theorem number_plain (S : ByteArray) (p : Nat) (w : World) (hS : S.size ≤ 1000) (hp : p ≤ S.size) (hm : ∀ h : p < S.size, S[p].toNat ≠ 45) :
    Calls Tryd.prog 26 #[.string S, .int .i64 p] w fun e w' => e = .returned (.tuple #[.int .i64 (numR S.data.toList p).1, .int .i64 (numR S.data.toList p).2]) ∧ w' = w := by
  have HR : Hid _ := numR_plain S p hm
  have hrd := num_round S p
  obtain ⟨hs1, hs2, hs3⟩ := num_stop S p (by omega)
  have h6 := digs_len (S.data.toList.drop p)
  generalize hD : digsOf (S.data.toList.drop p) = D at *
  clear hD
  have HRD : Hid _ := hrd
  clear hrd
  by_cases hlt : p < S.size
  · have h45 : ((S[p].toNat : Int) == 45) = false := by have := hm hlt; simp; omega
    clear hm
    go_enter Tryd.func26, Tryd.ntmps26
    go_wp2_with fail
    go_loop [1, 7] (fun a n => ∃ q : Nat, p ≤ q ∧ q ≤ p + D.length ∧ a = .int .i64 q ∧ n = .int .i64 (valOf 0 (D.take (q - (p)))) ∧ valOf 0 (D.take (q - (p))) < 1000000) (fun a _ => p + D.length - (intOf a).toNat)
    case atStart => exact ⟨p, Nat.le_refl _, by omega, by go_num, by rw [Nat.sub_self]; rfl, by rw [Nat.sub_self, val_zero]; omega⟩
    case round =>
      obtain ⟨q, hq1, hq2, rfl, rfl, hv⟩ := hrel
      by_cases hq : q < p + D.length
      · obtain ⟨g0, g1, g2, g3, g4, g5⟩ := HRD.out q hq1 hq
        have i1 : (48 : Int) ≤ (S[q].toNat : Int) := by omega
        have i2 : (S[q].toNat : Int) ≤ 57 := by omega
        have i3 : (q : Int) < (p : Int) + 6 := by omega
        have G4 : Hid _ := g4
        clear g4 HRD hs2 HR
        generalize hVV : valOf 0 (D.take (q - (p))) = V at *
        clear hVV
        go_wp2
        go_round
        case rel => exact ⟨q + 1, by omega, by omega, by go_num, by rw [G4.out]; go_num, by rw [G4.out]; omega⟩
        case measure => simp [intOf]; omega
      · have hqe : p + D.length = q := by omega
        have hall : D.take (q - (p)) = D := by rw [← hqe, Nat.add_sub_cancel_left]; exact List.take_length
        rw [hall] at hv ⊢
        rw [hqe] at hs2 hs1
        by_cases hm0 : D.length = 0
        · have hfin2 : Hid (numR S.data.toList p = (0, -1)) := by show _ = _; rw [HR.out, if_pos hm0]
          have hne : ((q : Int) == (p : Int)) = true := by simp; omega
          have h6' : D.length ≠ 6 := by omega
          clear HR HRD hall
          generalize valOf 0 D = V at *
          rcases hs2 with h | h | ⟨h, h'⟩
          · exact absurd h h6'
          · have hnl : ¬ (q : Int) < S.size := by omega
            clear hqe hm0 h
            go_wp2
            all_goals
              go_ret2
              exact ⟨ret_ii (by rw [hfin2.out]) (by rw [hfin2.out]), rfl⟩
          · clear hqe hm0
            rcases h' with h' | h'
            · have i1 : ¬ (48 : Int) ≤ (S[q].toNat : Int) := by omega
              go_wp2
              all_goals
                go_ret2
                exact ⟨ret_ii (by rw [hfin2.out]) (by rw [hfin2.out]), rfl⟩
            · have i1 : (48 : Int) ≤ (S[q].toNat : Int) := by omega
              have i2 : ¬ (S[q].toNat : Int) ≤ 57 := by omega
              go_wp2
              all_goals
                go_ret2
                exact ⟨ret_ii (by rw [hfin2.out]) (by rw [hfin2.out]), rfl⟩
        · have hfin2 : Hid (numR S.data.toList p = ((valOf 0 D : Int), (q : Int))) := by show _ = _; rw [HR.out, if_neg hm0]; congr 1; omega
          have hne : ((q : Int) == (p : Int)) = false := by simp; omega
          have hq6 : D.length = 6 → ¬ (q : Int) < (p : Int) + 6 := by intro h; omega
          clear HR HRD hall
          generalize valOf 0 D = V at *
          rcases hs2 with h | h | ⟨h, h'⟩
          · have i3 := hq6 h
            clear hqe hm0 h hq6
            by_cases hin : q < S.size
            · go_wp2
              all_goals
                go_ret2
                exact ⟨ret_ii (by rw [hfin2.out]) (by rw [hfin2.out]), rfl⟩
            · have hnl : ¬ (q : Int) < S.size := by omega
              go_wp2
              all_goals
                go_ret2
                exact ⟨ret_ii (by rw [hfin2.out]) (by rw [hfin2.out]), rfl⟩
          · have hnl : ¬ (q : Int) < S.size := by omega
            clear hqe hm0 h hq6
            go_wp2
            all_goals
              go_ret2
              exact ⟨ret_ii (by rw [hfin2.out]) (by rw [hfin2.out]), rfl⟩
          · clear hqe hm0 hq6
            rcases h' with h' | h'
            · have i1 : ¬ (48 : Int) ≤ (S[q].toNat : Int) := by omega
              go_wp2
              all_goals
                go_ret2
                exact ⟨ret_ii (by rw [hfin2.out]) (by rw [hfin2.out]), rfl⟩
            · have i1 : (48 : Int) ≤ (S[q].toNat : Int) := by omega
              have i2 : ¬ (S[q].toNat : Int) ≤ 57 := by omega
              go_wp2
              all_goals
                go_ret2
                exact ⟨ret_ii (by rw [hfin2.out]) (by rw [hfin2.out]), rfl⟩
  · have hge : ¬ (p : Int) < S.size := by omega
    clear hm
    go_enter Tryd.func26, Tryd.ntmps26
    go_wp2_with fail
    go_loop [1, 7] (fun a n => ∃ q : Nat, p ≤ q ∧ q ≤ p + D.length ∧ a = .int .i64 q ∧ n = .int .i64 (valOf 0 (D.take (q - (p)))) ∧ valOf 0 (D.take (q - (p))) < 1000000) (fun a _ => p + D.length - (intOf a).toNat)
    case atStart => exact ⟨p, Nat.le_refl _, by omega, by go_num, by rw [Nat.sub_self]; rfl, by rw [Nat.sub_self, val_zero]; omega⟩
    case round =>
      obtain ⟨q, hq1, hq2, rfl, rfl, hv⟩ := hrel
      by_cases hq : q < p + D.length
      · obtain ⟨g0, g1, g2, g3, g4, g5⟩ := HRD.out q hq1 hq
        have i1 : (48 : Int) ≤ (S[q].toNat : Int) := by omega
        have i2 : (S[q].toNat : Int) ≤ 57 := by omega
        have i3 : (q : Int) < (p : Int) + 6 := by omega
        have G4 : Hid _ := g4
        clear g4 HRD hs2 HR
        generalize hVV : valOf 0 (D.take (q - (p))) = V at *
        clear hVV
        go_wp2
        go_round
        case rel => exact ⟨q + 1, by omega, by omega, by go_num, by rw [G4.out]; go_num, by rw [G4.out]; omega⟩
        case measure => simp [intOf]; omega
      · have hqe : p + D.length = q := by omega
        have hall : D.take (q - (p)) = D := by rw [← hqe, Nat.add_sub_cancel_left]; exact List.take_length
        rw [hall] at hv ⊢
        rw [hqe] at hs2 hs1
        by_cases hm0 : D.length = 0
        · have hfin2 : Hid (numR S.data.toList p = (0, -1)) := by show _ = _; rw [HR.out, if_pos hm0]
          have hne : ((q : Int) == (p : Int)) = true := by simp; omega
          have h6' : D.length ≠ 6 := by omega
          clear HR HRD hall
          generalize valOf 0 D = V at *
          rcases hs2 with h | h | ⟨h, h'⟩
          · exact absurd h h6'
          · have hnl : ¬ (q : Int) < S.size := by omega
            clear hqe hm0 h
            go_wp2
            all_goals
              go_ret2
              exact ⟨ret_ii (by rw [hfin2.out]) (by rw [hfin2.out]), rfl⟩
          · clear hqe hm0
            rcases h' with h' | h'
            · have i1 : ¬ (48 : Int) ≤ (S[q].toNat : Int) := by omega
              go_wp2
              all_goals
                go_ret2
                exact ⟨ret_ii (by rw [hfin2.out]) (by rw [hfin2.out]), rfl⟩
            · have i1 : (48 : Int) ≤ (S[q].toNat : Int) := by omega
              have i2 : ¬ (S[q].toNat : Int) ≤ 57 := by omega
              go_wp2
              all_goals
                go_ret2
                exact ⟨ret_ii (by rw [hfin2.out]) (by rw [hfin2.out]), rfl⟩
        · have hfin2 : Hid (numR S.data.toList p = ((valOf 0 D : Int), (q : Int))) := by show _ = _; rw [HR.out, if_neg hm0]; congr 1; omega
          have hne : ((q : Int) == (p : Int)) = false := by simp; omega
          have hq6 : D.length = 6 → ¬ (q : Int) < (p : Int) + 6 := by intro h; omega
          clear HR HRD hall
          generalize valOf 0 D = V at *
          rcases hs2 with h | h | ⟨h, h'⟩
          · have i3 := hq6 h
            clear hqe hm0 h hq6
            by_cases hin : q < S.size
            · go_wp2
              all_goals
                go_ret2
                exact ⟨ret_ii (by rw [hfin2.out]) (by rw [hfin2.out]), rfl⟩
            · have hnl : ¬ (q : Int) < S.size := by omega
              go_wp2
              all_goals
                go_ret2
                exact ⟨ret_ii (by rw [hfin2.out]) (by rw [hfin2.out]), rfl⟩
          · have hnl : ¬ (q : Int) < S.size := by omega
            clear hqe hm0 h hq6
            go_wp2
            all_goals
              go_ret2
              exact ⟨ret_ii (by rw [hfin2.out]) (by rw [hfin2.out]), rfl⟩
          · clear hqe hm0 hq6
            rcases h' with h' | h'
            · have i1 : ¬ (48 : Int) ≤ (S[q].toNat : Int) := by omega
              go_wp2
              all_goals
                go_ret2
                exact ⟨ret_ii (by rw [hfin2.out]) (by rw [hfin2.out]), rfl⟩
            · have i1 : (48 : Int) ≤ (S[q].toNat : Int) := by omega
              have i2 : ¬ (S[q].toNat : Int) ≤ 57 := by omega
              go_wp2
              all_goals
                go_ret2
                exact ⟨ret_ii (by rw [hfin2.out]) (by rw [hfin2.out]), rfl⟩

set_option maxHeartbeats 4000000 in
set_option maxRecDepth 20000 in
theorem number_minus (S : ByteArray) (p : Nat) (w : World) (hS : S.size ≤ 1000) (hp : p < S.size) (hm : S[p].toNat = 45) :
    Calls Tryd.prog 26 #[.string S, .int .i64 p] w fun e w' => e = .returned (.tuple #[.int .i64 (numR S.data.toList p).1, .int .i64 (numR S.data.toList p).2]) ∧ w' = w := by
  have HR : Hid _ := numR_minus S p hp hm
  have hrd := num_round S (p + 1)
  obtain ⟨hs1, hs2, hs3⟩ := num_stop S (p + 1) (by omega)
  have h6 := digs_len (S.data.toList.drop (p + 1))
  generalize hD : digsOf (S.data.toList.drop (p + 1)) = D at *
  clear hD
  have HRD : Hid _ := hrd
  clear hrd
  have h45 : ((S[p].toNat : Int) == 45) = true := by simp; omega
  clear hm
  go_enter Tryd.func26, Tryd.ntmps26
  go_wp2_with fail
  go_loop [1, 7] (fun a n => ∃ q : Nat, p + 1 ≤ q ∧ q ≤ p + 1 + D.length ∧ a = .int .i64 q ∧ n = .int .i64 (valOf 0 (D.take (q - (p + 1)))) ∧ valOf 0 (D.take (q - (p + 1))) < 1000000) (fun a _ => p + 1 + D.length - (intOf a).toNat)
  case atStart => exact ⟨p + 1, Nat.le_refl _, by omega, by go_num, by rw [Nat.sub_self]; rfl, by rw [Nat.sub_self, val_zero]; omega⟩
  case round =>
    obtain ⟨q, hq1, hq2, rfl, rfl, hv⟩ := hrel
    by_cases hq : q < p + 1 + D.length
    · obtain ⟨g0, g1, g2, g3, g4, g5⟩ := HRD.out q hq1 hq
      have i1 : (48 : Int) ≤ (S[q].toNat : Int) := by omega
      have i2 : (S[q].toNat : Int) ≤ 57 := by omega
      have i3 : (q : Int) < (p : Int) + 1 + 6 := by omega
      have G4 : Hid _ := g4
      clear g4 HRD hs2 HR
      generalize hVV : valOf 0 (D.take (q - (p + 1))) = V at *
      clear hVV
      go_wp2
      go_round
      case rel => exact ⟨q + 1, by omega, by omega, by go_num, by rw [G4.out]; go_num, by rw [G4.out]; omega⟩
      case measure => simp [intOf]; omega
    · have hqe : p + 1 + D.length = q := by omega
      have hall : D.take (q - (p + 1)) = D := by rw [← hqe, Nat.add_sub_cancel_left]; exact List.take_length
      rw [hall] at hv ⊢
      rw [hqe] at hs2 hs1
      by_cases hm0 : D.length = 0
      · have hfin2 : Hid (numR S.data.toList p = (0, -1)) := by show _ = _; rw [HR.out, if_pos hm0]
        have hne : ((q : Int) == (p : Int) + 1) = true := by simp; omega
        have h6' : D.length ≠ 6 := by omega
        clear HR HRD hall
        generalize valOf 0 D = V at *
        rcases hs2 with h | h | ⟨h, h'⟩
        · exact absurd h h6'
        · have hnl : ¬ (q : Int) < S.size := by omega
          clear hqe hm0 h
          go_wp2
          all_goals
            go_ret2
            exact ⟨ret_ii (by rw [hfin2.out]) (by rw [hfin2.out]), rfl⟩
        · clear hqe hm0
          rcases h' with h' | h'
          · have i1 : ¬ (48 : Int) ≤ (S[q].toNat : Int) := by omega
            go_wp2
            all_goals
              go_ret2
              exact ⟨ret_ii (by rw [hfin2.out]) (by rw [hfin2.out]), rfl⟩
          · have i1 : (48 : Int) ≤ (S[q].toNat : Int) := by omega
            have i2 : ¬ (S[q].toNat : Int) ≤ 57 := by omega
            go_wp2
            all_goals
              go_ret2
              exact ⟨ret_ii (by rw [hfin2.out]) (by rw [hfin2.out]), rfl⟩
      · have hfin2 : Hid (numR S.data.toList p = (-(valOf 0 D : Int), (q : Int))) := by show _ = _; rw [HR.out, if_neg hm0]; congr 1; omega
        have hne : ((q : Int) == (p : Int) + 1) = false := by simp; omega
        have hq6 : D.length = 6 → ¬ (q : Int) < (p : Int) + 1 + 6 := by intro h; omega
        clear HR HRD hall
        generalize valOf 0 D = V at *
        rcases hs2 with h | h | ⟨h, h'⟩
        · have i3 := hq6 h
          clear hqe hm0 h hq6
          by_cases hin : q < S.size
          · go_wp2
            all_goals
              go_ret2
              exact ⟨ret_ii (by rw [hfin2.out]) (by rw [hfin2.out]), rfl⟩
          · have hnl : ¬ (q : Int) < S.size := by omega
            go_wp2
            all_goals
              go_ret2
              exact ⟨ret_ii (by rw [hfin2.out]) (by rw [hfin2.out]), rfl⟩
        · have hnl : ¬ (q : Int) < S.size := by omega
          clear hqe hm0 h hq6
          go_wp2
          all_goals
            go_ret2
            exact ⟨ret_ii (by rw [hfin2.out]) (by rw [hfin2.out]), rfl⟩
        · clear hqe hm0 hq6
          rcases h' with h' | h'
          · have i1 : ¬ (48 : Int) ≤ (S[q].toNat : Int) := by omega
            go_wp2
            all_goals
              go_ret2
              exact ⟨ret_ii (by rw [hfin2.out]) (by rw [hfin2.out]), rfl⟩
          · have i1 : (48 : Int) ≤ (S[q].toNat : Int) := by omega
            have i2 : ¬ (S[q].toNat : Int) ≤ 57 := by omega
            go_wp2
            all_goals
              go_ret2
              exact ⟨ret_ii (by rw [hfin2.out]) (by rw [hfin2.out]), rfl⟩
theorem number_any (S : ByteArray) (p : Nat) (w : World) (hS : S.size ≤ 1000) (hp : p ≤ S.size) :
    Calls Tryd.prog 26 #[.string S, .int .i64 p] w fun e w' => e = .returned (.tuple #[.int .i64 (numR S.data.toList p).1, .int .i64 (numR S.data.toList p).2]) ∧ w' = w := by
  by_cases h : ∃ h : p < S.size, S[p].toNat = 45
  · obtain ⟨h, hm⟩ := h
    exact number_minus S p w hS h hm
  · exact number_plain S p w hS hp fun h1 h2 => h ⟨h1, h2⟩
end Go.Proofs.YtbkmdmmcjaanmaaDoor
