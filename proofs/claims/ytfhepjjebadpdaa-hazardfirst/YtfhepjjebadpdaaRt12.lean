/-
  The contract of delayslotref12.At.
-/
import Derived.Test.YtfhepjjebadpdaaHe12
import Derived.Test.YtfhepjjebadpdaaRef3
import Derived.Test.YtfhepjjebadpdaaRgs
namespace Go.Proofs.Ytfhepjjebadpdaa
set_option maxRecDepth 20000
set_option linter.unusedVariables false
open Go.ChangeShapes Go.WideShapes Go.ChangeAt Go.RowKit

theorem at_ways {r g l f s n rd gn gp : Bool} {k L : Nat} {F : Int} (hk : k < L)
    (FF : (r = false ∧ F = 1) ∨ (r = true ∧ g = true ∧ f = false ∧ F = 2) ∨ (r = true ∧ g = true ∧ f = true ∧ l = false ∧ F = 0) ∨ (r = true ∧ g = false ∧ l = false ∧ F = 0) ∨ (r = true ∧ g = false ∧ l = true ∧ s = true ∧ F = 3) ∨ (r = true ∧ g = false ∧ l = true ∧ s = false ∧ n = true ∧ F = 4) ∨ (r = true ∧ g = false ∧ l = true ∧ s = false ∧ n = false ∧ F = 0))
    (EF : f = (decide (k + 1 < L) && !gn)) (ES : s = (decide (0 < k) && gp)) (EN : n = (decide (k + 1 < L) && rd)) :
    (r = false ∧ F = 1) ∨ (r = true ∧ g = true ∧ k + 1 = L ∧ F = 2) ∨ (r = true ∧ g = true ∧ k + 1 < L ∧ gn = true ∧ F = 2) ∨ (r = true ∧ g = true ∧ k + 1 < L ∧ gn = false ∧ F = 0) ∨ (r = true ∧ g = false ∧ l = false ∧ F = 0) ∨ (r = true ∧ g = false ∧ l = true ∧ 0 < k ∧ gp = true ∧ F = 3) ∨
      (r = true ∧ g = false ∧ l = true ∧ ¬ 0 < k ∧ k + 1 = L ∧ F = 0) ∨ (r = true ∧ g = false ∧ l = true ∧ ¬ 0 < k ∧ k + 1 < L ∧ rd = true ∧ F = 4) ∨ (r = true ∧ g = false ∧ l = true ∧ ¬ 0 < k ∧ k + 1 < L ∧ rd = false ∧ F = 0) ∨
      (r = true ∧ g = false ∧ l = true ∧ 0 < k ∧ gp = false ∧ k + 1 = L ∧ F = 0) ∨ (r = true ∧ g = false ∧ l = true ∧ 0 < k ∧ gp = false ∧ k + 1 < L ∧ rd = true ∧ F = 4) ∨ (r = true ∧ g = false ∧ l = true ∧ 0 < k ∧ gp = false ∧ k + 1 < L ∧ rd = false ∧ F = 0) := by
  rcases FF with ⟨h1, hF⟩ | ⟨h1, h2, rfl, hF⟩ | ⟨h1, h2, rfl, _, hF⟩ | ⟨h1, h2, h3, hF⟩ | ⟨h1, h2, h3, rfl, hF⟩ | ⟨h1, h2, h3, rfl, rfl, hF⟩ | ⟨h1, h2, h3, rfl, rfl, hF⟩
  · exact .inl ⟨h1, hF⟩
  · by_cases q : k + 1 < L
    · have e : gn = true := by simpa [q] using EF
      exact .inr (.inr (.inl ⟨h1, h2, q, e, hF⟩))
    · exact .inr (.inl ⟨h1, h2, by omega, hF⟩)
  · have e : k + 1 < L ∧ gn = false := by simpa using EF.symm
    exact .inr (.inr (.inr (.inl ⟨h1, h2, e.1, e.2, hF⟩)))
  · exact .inr (.inr (.inr (.inr (.inl ⟨h1, h2, h3, hF⟩))))
  · have e : 0 < k ∧ gp = true := by simpa using ES.symm
    exact .inr (.inr (.inr (.inr (.inr (.inl ⟨h1, h2, h3, e.1, e.2, hF⟩)))))
  · have e : k + 1 < L ∧ rd = true := by simpa using EN.symm
    by_cases q : 0 < k
    · have e2 : gp = false := by simpa [q] using ES
      exact .inr (.inr (.inr (.inr (.inr (.inr (.inr (.inr (.inr (.inr (.inl ⟨h1, h2, h3, q, e2, e.1, e.2, hF⟩))))))))))
    · exact .inr (.inr (.inr (.inr (.inr (.inr (.inr (.inl ⟨h1, h2, h3, q, e.1, e.2, hF⟩)))))))
  · by_cases q1 : k + 1 < L
    · have e : rd = false := by simpa [q1] using EN
      by_cases q : 0 < k
      · have e2 : gp = false := by simpa [q] using ES
        exact .inr (.inr (.inr (.inr (.inr (.inr (.inr (.inr (.inr (.inr (.inr ⟨h1, h2, h3, q, e2, q1, e, hF⟩))))))))))
      · exact .inr (.inr (.inr (.inr (.inr (.inr (.inr (.inr (.inl ⟨h1, h2, h3, q, q1, e, hF⟩))))))))
    · by_cases q : 0 < k
      · have e2 : gp = false := by simpa [q] using ES
        exact .inr (.inr (.inr (.inr (.inr (.inr (.inr (.inr (.inr (.inl ⟨h1, h2, h3, q, e2, by omega, hF⟩)))))))))
      · exact .inr (.inr (.inr (.inr (.inr (.inr (.inl ⟨h1, h2, h3, q, by omega, hF⟩))))))

set_option maxHeartbeats 4000000 in
theorem refAt_any (X : List Ins) (k : Nat) (v : Value) (w : World) (hX : X.length ≤ 5000) (hk : k < X.length) (hv : Code w v X) :
    Calls Try.prog 9 #[v, .int .i64 k] w fun e w' => e = .returned (.int .i64 (faultI X k)) ∧ Bel w w' := by
  have FF := hidm (fault_forms X k)
  obtain ⟨ao, cap, rfl, hc⟩ := hv
  obtain ⟨b, o, rfl, hb, hca⟩ := hc (by omega)
  obtain ⟨a0, a1, a2, a3, a4⟩ := hca k hk
  have hki : (k : Int) < X.length := by omega
  have hri := fun ww => ret_right (x := X.getD k Ins.zero) ww
  have hgo := fun ww => ret_goes (x := X.getD k Ins.zero) ww
  have hla := fun ww => ret_late (x := X.getD k Ins.zero) ww
  have hwr := fun ww => ret_wr (x := X.getD k Ins.zero) ww
  have hgp := fun ww => ret_goes (x := X.getD (k - 1) Ins.zero) ww
  have hgn := fun ww => ret_goes (x := X.getD (k + 1) Ins.zero) ww
  have hrd := fun ww => ret_rds (x := X.getD (k + 1) Ins.zero) (n := (X.getD k Ins.zero).wr) ww
  have HP : ∀ j, j + 1 = k → w.cell? ⟨b, o + j * 5, none⟩ = some (.int .i64 (X.getD (k - 1) Ins.zero).o) ∧ w.cell? ⟨b, o + j * 5 + 1, none⟩ = some (.int .i64 (X.getD (k - 1) Ins.zero).a) ∧ w.cell? ⟨b, o + j * 5 + 2, none⟩ = some (.int .i64 (X.getD (k - 1) Ins.zero).b) ∧
      w.cell? ⟨b, o + j * 5 + 3, none⟩ = some (.int .i64 (X.getD (k - 1) Ins.zero).c) ∧ w.cell? ⟨b, o + j * 5 + 4, none⟩ = some (.int .i64 (X.getD (k - 1) Ins.zero).i) := fun j e => by
    have h := hca j (by omega)
    rw [show k - 1 = j by omega]
    exact h
  have HNx := fun (h : k + 1 < X.length) => hca (k + 1) h
  have EF : Hid (fillB X k = (decide (k + 1 < X.length) && !(X.getD (k + 1) Ins.zero).goes)) := rfl
  have ES : Hid (slotB X k = (decide (0 < k) && (X.getD (k - 1) Ins.zero).goes)) := rfl
  have EN : Hid (soonB X k = (decide (k + 1 < X.length) && (X.getD (k + 1) Ins.zero).rds (X.getD k Ins.zero).wr)) := rfl
  clear hc hca
  generalize fillB X k = f at EF FF
  generalize slotB X k = s at ES FF
  generalize soonB X k = n at EN FF
  generalize faultI X k = F at FF ⊢
  generalize (X.getD (k + 1) Ins.zero).rds (X.getD k Ins.zero).wr = rd at hrd EN
  generalize (X.getD (k + 1) Ins.zero).goes = gn at hgn EF
  generalize (X.getD (k - 1) Ins.zero).goes = gp at hgp ES
  generalize X.getD (k + 1) Ins.zero = y at HNx hgn hrd
  generalize X.getD (k - 1) Ins.zero = z at HP hgp
  generalize (X.getD k Ins.zero).right = r at hri FF
  generalize (X.getD k Ins.zero).goes = g at hgo FF
  generalize (X.getD k Ins.zero).late = l at hla FF
  generalize (X.getD k Ins.zero).wr = wr at hwr hrd
  generalize X.getD k Ins.zero = x at a0 a1 a2 a3 a4 hri hgo hla hwr
  have ways := at_ways hk FF.out EF.out ES.out EN.out
  have W := hidm ways
  clear ways EF ES EN FF
  obtain ⟨b0, b1, b2, b3, b4⟩ := box5 w x.o x.a x.b x.c x.i 31
  have hB : Bel w (w.alloc (Obj.cells #[.int .i64 x.o, .int .i64 x.a, .int .i64 x.b, .int .i64 x.c, .int .i64 x.i] 31)) := (Bel.refl w).alloc _
  go_enter Try.func9, Try.ntmps9
  go_wp2_with (go_at_call 15; refine Hid.out ?_)
  generalize (w.alloc (Obj.cells #[.int .i64 x.o, .int .i64 x.a, .int .i64 x.b, .int .i64 x.c, .int .i64 x.i] 31)) = wB at hB b0 b1 b2 b3 b4 ⊢
  haveI := Later.ne wB
  obtain ⟨u1, e1⟩ := later_start wB
  rw [← e1]
  clear e1 a0 a1 a2 a3 a4
  refine hidm ?_
  have NX : k + 1 < X.length → (∀ u : Later wB, u.at_.cell? ⟨b, o + (k + 1) * 5, none⟩ = some (.int .i64 y.o)) ∧ (∀ u : Later wB, u.at_.cell? ⟨b, o + (k + 1) * 5 + 1, none⟩ = some (.int .i64 y.a)) ∧ (∀ u : Later wB, u.at_.cell? ⟨b, o + (k + 1) * 5 + 2, none⟩ = some (.int .i64 y.b)) ∧ (∀ u : Later wB, u.at_.cell? ⟨b, o + (k + 1) * 5 + 3, none⟩ = some (.int .i64 y.c)) ∧ (∀ u : Later wB, u.at_.cell? ⟨b, o + (k + 1) * 5 + 4, none⟩ = some (.int .i64 y.i)) := fun h => by
    obtain ⟨n0, n1, n2, n3, n4⟩ := HNx h
    exact ⟨fun u => later_cell n0 hb ⟨u.at_, btrans hB u.is_⟩, fun u => later_cell n1 hb ⟨u.at_, btrans hB u.is_⟩, fun u => later_cell n2 hb ⟨u.at_, btrans hB u.is_⟩, fun u => later_cell n3 hb ⟨u.at_, btrans hB u.is_⟩, fun u => later_cell n4 hb ⟨u.at_, btrans hB u.is_⟩⟩
  have PX : ∀ m, m + 1 = k → (∀ u : Later wB, u.at_.cell? ⟨b, o + m * 5, none⟩ = some (.int .i64 z.o)) ∧ (∀ u : Later wB, u.at_.cell? ⟨b, o + m * 5 + 1, none⟩ = some (.int .i64 z.a)) ∧ (∀ u : Later wB, u.at_.cell? ⟨b, o + m * 5 + 2, none⟩ = some (.int .i64 z.b)) ∧ (∀ u : Later wB, u.at_.cell? ⟨b, o + m * 5 + 3, none⟩ = some (.int .i64 z.c)) ∧ (∀ u : Later wB, u.at_.cell? ⟨b, o + m * 5 + 4, none⟩ = some (.int .i64 z.i)) := fun m e => by
    obtain ⟨n0, n1, n2, n3, n4⟩ := HP m e
    exact ⟨fun u => later_cell n0 hb ⟨u.at_, btrans hB u.is_⟩, fun u => later_cell n1 hb ⟨u.at_, btrans hB u.is_⟩, fun u => later_cell n2 hb ⟨u.at_, btrans hB u.is_⟩, fun u => later_cell n3 hb ⟨u.at_, btrans hB u.is_⟩, fun u => later_cell n4 hb ⟨u.at_, btrans hB u.is_⟩⟩
  have NXh := hidm NX
  have PXh := hidm PX
  clear NX PX HNx HP
  rcases W.out with ⟨rfl, rfl⟩ | ⟨rfl, rfl, q1, rfl⟩ | ⟨rfl, rfl, q1, rfl, rfl⟩ | ⟨rfl, rfl, q1, rfl, rfl⟩ | ⟨rfl, rfl, rfl, rfl⟩ | ⟨rfl, rfl, rfl, q0, rfl, rfl⟩ |
    ⟨rfl, rfl, rfl, q0, q1, rfl⟩ | ⟨rfl, rfl, rfl, q0, q1, rfl, rfl⟩ | ⟨rfl, rfl, rfl, q0, q1, rfl, rfl⟩ | ⟨rfl, rfl, rfl, q0, rfl, q1, rfl⟩ | ⟨rfl, rfl, rfl, q0, rfl, q1, rfl, rfl⟩ | ⟨rfl, rfl, rfl, q0, rfl, q1, rfl, rfl⟩
  · clear W NXh PXh
    go_wp2_with (first
      | (go_at_call 15; refine (later_of (hri _)).mono ?_; rintro e _ ⟨rfl, u2, rfl⟩)
      | (go_at_call 14; refine (later_of (hla _)).mono ?_; rintro e _ ⟨rfl, u4, rfl⟩)
      | (go_at_call 13; refine (later_of (hgo _)).mono ?_; rintro e _ ⟨rfl, u3, rfl⟩))
    go_ret
    exact ⟨rfl, btrans hB (Later.is_ _)⟩
  · have hq : ((k : Int) + 1 == (X.length : Int)) = true := beq_iff_eq.2 (by omega)
    clear W NXh PXh
    go_wp2_with (first
      | (go_at_call 15; refine (later_of (hri _)).mono ?_; rintro e _ ⟨rfl, u2, rfl⟩)
      | (go_at_call 14; refine (later_of (hla _)).mono ?_; rintro e _ ⟨rfl, u4, rfl⟩)
      | (go_at_call 13; refine (later_of (hgo _)).mono ?_; rintro e _ ⟨rfl, u3, rfl⟩))
    go_ret
    exact ⟨rfl, btrans hB (Later.is_ _)⟩
  · have hq : ((k : Int) + 1 == (X.length : Int)) = false := beq_eq_false_iff_ne.2 (by omega)
    obtain ⟨n0, n1, n2, n3, n4⟩ := NXh.out q1
    have h2 : (k : Int) + 1 < X.length := by omega
    have h20 : (0 : Int) ≤ (k : Int) + 1 := by omega
    clear W NXh PXh
    go_wp2_with (first
      | (go_at_call 15; refine (later_of (hri _)).mono ?_; rintro e _ ⟨rfl, u2, rfl⟩)
      | (go_at_call 14; refine (later_of (hla _)).mono ?_; rintro e _ ⟨rfl, u4, rfl⟩)
      | (have q := u3; go_at_call 13; refine (later_of (hgn _)).mono ?_; rintro e _ ⟨rfl, u5, rfl⟩)
      | (go_at_call 13; refine (later_of (hgo _)).mono ?_; rintro e _ ⟨rfl, u3, rfl⟩))
    go_ret
    exact ⟨rfl, btrans hB (Later.is_ _)⟩
  · have hq : ((k : Int) + 1 == (X.length : Int)) = false := beq_eq_false_iff_ne.2 (by omega)
    obtain ⟨n0, n1, n2, n3, n4⟩ := NXh.out q1
    have h2 : (k : Int) + 1 < X.length := by omega
    have h20 : (0 : Int) ≤ (k : Int) + 1 := by omega
    clear W NXh PXh
    go_wp2_with (first
      | (go_at_call 15; refine (later_of (hri _)).mono ?_; rintro e _ ⟨rfl, u2, rfl⟩)
      | (go_at_call 14; refine (later_of (hla _)).mono ?_; rintro e _ ⟨rfl, u4, rfl⟩)
      | (have q := u3; go_at_call 13; refine (later_of (hgn _)).mono ?_; rintro e _ ⟨rfl, u5, rfl⟩)
      | (go_at_call 13; refine (later_of (hgo _)).mono ?_; rintro e _ ⟨rfl, u3, rfl⟩))
    go_ret
    exact ⟨rfl, btrans hB (Later.is_ _)⟩
  · clear W NXh PXh
    go_wp2_with (first
      | (go_at_call 15; refine (later_of (hri _)).mono ?_; rintro e _ ⟨rfl, u2, rfl⟩)
      | (go_at_call 14; refine (later_of (hla _)).mono ?_; rintro e _ ⟨rfl, u4, rfl⟩)
      | (go_at_call 13; refine (later_of (hgo _)).mono ?_; rintro e _ ⟨rfl, u3, rfl⟩))
    go_ret
    exact ⟨rfl, btrans hB (Later.is_ _)⟩
  · obtain ⟨m, rfl⟩ : ∃ m, k = m + 1 := ⟨k - 1, by omega⟩
    obtain ⟨p0, p1, p2, p3, p4⟩ := PXh.out m rfl
    have hm1 : (m : Int) < X.length := by omega
    have hm2 : (0 : Int) < (m : Int) + 1 := by omega
    clear W NXh PXh
    go_wp2_with (first
      | (go_at_call 15; refine (later_of (hri _)).mono ?_; rintro e _ ⟨rfl, u2, rfl⟩)
      | (go_at_call 14; refine (later_of (hla _)).mono ?_; rintro e _ ⟨rfl, u4, rfl⟩)
      | (have q := u3; go_at_call 13; refine (later_of (hgp _)).mono ?_; rintro e _ ⟨rfl, u6, rfl⟩)
      | (go_at_call 13; refine (later_of (hgo _)).mono ?_; rintro e _ ⟨rfl, u3, rfl⟩))
    go_ret
    exact ⟨rfl, btrans hB (Later.is_ _)⟩
  · have h0 : ¬ (0 : Int) < (k : Int) := by omega
    have h2 : ¬ (k : Int) + 1 < X.length := by omega
    have hd : decide ((k : Int) + 1 < (X.length : Int)) = false := decide_eq_false h2
    clear W NXh PXh
    go_wp2_with (first
      | (go_at_call 15; refine (later_of (hri _)).mono ?_; rintro e _ ⟨rfl, u2, rfl⟩)
      | (go_at_call 14; refine (later_of (hla _)).mono ?_; rintro e _ ⟨rfl, u4, rfl⟩)
      | (go_at_call 13; refine (later_of (hgo _)).mono ?_; rintro e _ ⟨rfl, u3, rfl⟩))
    refine wp_region_later (by kernel_rfl) (by kernel_rfl) ?_
    repeat (go_big_quiet_step (first | (go_at_call 17; exact later_of (hwr _)) | (go_at_call 16; exact later_of (hrd _))))
    refine wpQuiet_nil ?_
    rintro _ ⟨u8, rfl⟩
    go_wp2
    go_ret
    exact ⟨rfl, btrans hB (Later.is_ _)⟩
  · have h0 : ¬ (0 : Int) < (k : Int) := by omega
    obtain ⟨n0, n1, n2, n3, n4⟩ := NXh.out q1
    have h2 : (k : Int) + 1 < X.length := by omega
    have h20 : (0 : Int) ≤ (k : Int) + 1 := by omega
    have hd : decide ((k : Int) + 1 < (X.length : Int)) = true := decide_eq_true h2
    clear W NXh PXh
    go_wp2_with (first
      | (go_at_call 15; refine (later_of (hri _)).mono ?_; rintro e _ ⟨rfl, u2, rfl⟩)
      | (go_at_call 14; refine (later_of (hla _)).mono ?_; rintro e _ ⟨rfl, u4, rfl⟩)
      | (go_at_call 13; refine (later_of (hgo _)).mono ?_; rintro e _ ⟨rfl, u3, rfl⟩))
    refine wp_region_later (by kernel_rfl) (by kernel_rfl) ?_
    repeat (go_big_quiet_step (first | (go_at_call 17; exact later_of (hwr _)) | (go_at_call 16; exact later_of (hrd _))))
    refine wpQuiet_nil ?_
    rintro _ ⟨u8, rfl⟩
    go_wp2
    go_ret
    exact ⟨rfl, btrans hB (Later.is_ _)⟩
  · have h0 : ¬ (0 : Int) < (k : Int) := by omega
    obtain ⟨n0, n1, n2, n3, n4⟩ := NXh.out q1
    have h2 : (k : Int) + 1 < X.length := by omega
    have h20 : (0 : Int) ≤ (k : Int) + 1 := by omega
    have hd : decide ((k : Int) + 1 < (X.length : Int)) = true := decide_eq_true h2
    clear W NXh PXh
    go_wp2_with (first
      | (go_at_call 15; refine (later_of (hri _)).mono ?_; rintro e _ ⟨rfl, u2, rfl⟩)
      | (go_at_call 14; refine (later_of (hla _)).mono ?_; rintro e _ ⟨rfl, u4, rfl⟩)
      | (go_at_call 13; refine (later_of (hgo _)).mono ?_; rintro e _ ⟨rfl, u3, rfl⟩))
    refine wp_region_later (by kernel_rfl) (by kernel_rfl) ?_
    repeat (go_big_quiet_step (first | (go_at_call 17; exact later_of (hwr _)) | (go_at_call 16; exact later_of (hrd _))))
    refine wpQuiet_nil ?_
    rintro _ ⟨u8, rfl⟩
    go_wp2
    go_ret
    exact ⟨rfl, btrans hB (Later.is_ _)⟩
  · obtain ⟨m, rfl⟩ : ∃ m, k = m + 1 := ⟨k - 1, by omega⟩
    obtain ⟨p0, p1, p2, p3, p4⟩ := PXh.out m rfl
    have hm1 : (m : Int) < X.length := by omega
    have hm2 : (0 : Int) < (m : Int) + 1 := by omega
    have h2 : ¬ (m + 1 : Int) + 1 < X.length := by omega
    have hd : decide ((m + 1 : Int) + 1 < (X.length : Int)) = false := decide_eq_false h2
    clear W NXh PXh
    go_wp2_with (first
      | (go_at_call 15; refine (later_of (hri _)).mono ?_; rintro e _ ⟨rfl, u2, rfl⟩)
      | (go_at_call 14; refine (later_of (hla _)).mono ?_; rintro e _ ⟨rfl, u4, rfl⟩)
      | (have q := u3; go_at_call 13; refine (later_of (hgp _)).mono ?_; rintro e _ ⟨rfl, u6, rfl⟩)
      | (go_at_call 13; refine (later_of (hgo _)).mono ?_; rintro e _ ⟨rfl, u3, rfl⟩))
    refine wp_region_later (by kernel_rfl) (by kernel_rfl) ?_
    repeat (go_big_quiet_step (first | (go_at_call 17; exact later_of (hwr _)) | (go_at_call 16; exact later_of (hrd _))))
    refine wpQuiet_nil ?_
    rintro _ ⟨u8, rfl⟩
    go_wp2
    go_ret
    exact ⟨rfl, btrans hB (Later.is_ _)⟩
  · obtain ⟨m, rfl⟩ : ∃ m, k = m + 1 := ⟨k - 1, by omega⟩
    obtain ⟨p0, p1, p2, p3, p4⟩ := PXh.out m rfl
    have hm1 : (m : Int) < X.length := by omega
    have hm2 : (0 : Int) < (m : Int) + 1 := by omega
    obtain ⟨n0, n1, n2, n3, n4⟩ := NXh.out q1
    have h2 : (m + 1 : Int) + 1 < X.length := by omega
    have h20 : (0 : Int) ≤ (m + 1 : Int) + 1 := by omega
    have hd : decide ((m + 1 : Int) + 1 < (X.length : Int)) = true := decide_eq_true h2
    clear W NXh PXh
    go_wp2_with (first
      | (go_at_call 15; refine (later_of (hri _)).mono ?_; rintro e _ ⟨rfl, u2, rfl⟩)
      | (go_at_call 14; refine (later_of (hla _)).mono ?_; rintro e _ ⟨rfl, u4, rfl⟩)
      | (have q := u3; go_at_call 13; refine (later_of (hgp _)).mono ?_; rintro e _ ⟨rfl, u6, rfl⟩)
      | (go_at_call 13; refine (later_of (hgo _)).mono ?_; rintro e _ ⟨rfl, u3, rfl⟩))
    refine wp_region_later (by kernel_rfl) (by kernel_rfl) ?_
    repeat (go_big_quiet_step (first | (go_at_call 17; exact later_of (hwr _)) | (go_at_call 16; exact later_of (hrd _))))
    refine wpQuiet_nil ?_
    rintro _ ⟨u8, rfl⟩
    go_wp2
    go_ret
    exact ⟨rfl, btrans hB (Later.is_ _)⟩
  · obtain ⟨m, rfl⟩ : ∃ m, k = m + 1 := ⟨k - 1, by omega⟩
    obtain ⟨p0, p1, p2, p3, p4⟩ := PXh.out m rfl
    have hm1 : (m : Int) < X.length := by omega
    have hm2 : (0 : Int) < (m : Int) + 1 := by omega
    obtain ⟨n0, n1, n2, n3, n4⟩ := NXh.out q1
    have h2 : (m + 1 : Int) + 1 < X.length := by omega
    have h20 : (0 : Int) ≤ (m + 1 : Int) + 1 := by omega
    have hd : decide ((m + 1 : Int) + 1 < (X.length : Int)) = true := decide_eq_true h2
    clear W NXh PXh
    go_wp2_with (first
      | (go_at_call 15; refine (later_of (hri _)).mono ?_; rintro e _ ⟨rfl, u2, rfl⟩)
      | (go_at_call 14; refine (later_of (hla _)).mono ?_; rintro e _ ⟨rfl, u4, rfl⟩)
      | (have q := u3; go_at_call 13; refine (later_of (hgp _)).mono ?_; rintro e _ ⟨rfl, u6, rfl⟩)
      | (go_at_call 13; refine (later_of (hgo _)).mono ?_; rintro e _ ⟨rfl, u3, rfl⟩))
    refine wp_region_later (by kernel_rfl) (by kernel_rfl) ?_
    repeat (go_big_quiet_step (first | (go_at_call 17; exact later_of (hwr _)) | (go_at_call 16; exact later_of (hrd _))))
    refine wpQuiet_nil ?_
    rintro _ ⟨u8, rfl⟩
    go_wp2
    go_ret
    exact ⟨rfl, btrans hB (Later.is_ _)⟩
end Go.Proofs.Ytfhepjjebadpdaa
