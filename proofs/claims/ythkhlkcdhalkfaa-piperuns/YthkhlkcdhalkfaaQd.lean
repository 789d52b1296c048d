/-
  What the reference's Effect does, beside the machine of five stages.
-/
import Derived.Test.YthkhlkcdhalkfaaQa
import Derived.Test.YthkhlkcdhalkfaaPz
namespace Go.Proofs.Ythkhlkcdhalkfaa
set_option maxRecDepth 20000
set_option linter.unusedVariables false
open Go.ChangeShapes Go.WideShapes Go.ChangeAt Go.RowKit

theorem right20 {a b c i : Int} (h : rightB 20 a b c i = true) : i = 0 ∨ i = 1 ∨ i = 2 := by
  unfold rightB at h
  simp only [Bool.and_eq_true, decide_eq_true_eq] at h
  have h5 := h.2
  unfold leastOf mostOf at h5
  omega
def EffQ (A W W' : World) (b gr gm : Nat) (I : List Int) (rd : Nat) (p : Pt) (wr : Int) (r : Int × Pt) (e : Ending) : Prop :=
  ∃ t v : Int, e = .returned (.tuple #[.int .i64 t, .int .i64 v]) ∧ Hid (t = r.1) ∧ (∃ ov' rd', IsR A W' b gr gm ov' I r.2.st rd' 0 ∧ rd' ≤ rd + 1) ∧ Kept (MutR A.heap.size) W W' ∧ Hid (r.2.next = p.next) ∧ (t = 0 → r.2.lr = wr ∧ (wr ≠ 0 → r.2.lv = v))
section
variable {A W : World} {b gr gm : Nat} {ov : Value} {I : List Int} {p : Pt} {rd : Nat}
theorem effQ (h : IsR A W b gr gm ov I p.st rd 0) (hlr : p.lr = 0) (x : Ins) (hr : x.right = true) (ho : x.o = 12 ∨ x.o = 13 ∨ x.o = 14 ∨ x.o = 20) (hh c va vb vd : Int) (ai : Option Addr) (ci : Nat) (hi : IntsC A (.slice ai I.length ci) I) (hI : ∀ x ∈ I, (Lit.int .i64 x).wf = true) (hrd : rd ≤ 1000000) (ha : Wd va) (hb : Wd vb) :
    Calls Try.prog 38 #[.pointer (some ⟨b, 0, none⟩), .agg #[.int .i64 x.o, .int .i64 x.a, .int .i64 x.b, .int .i64 x.c, .int .i64 x.i], .int .i64 va, .int .i64 vb, .int .i64 vd, .slice ai I.length ci] W fun e W' => EffQ A W W' b gr gm I rd p x.wr (doP x hh va vb c vd p) e := by
  have hbd := right_bd hr
  rcases ho with ho | ho | ho | ho
  · rw [do_lw hr ho, ho]
    refine (eff12 h x.a x.b x.c x.i va vb vd (.slice ai I.length ci) hb (by omega)).mono ?_
    rintro e W' ⟨rfl, hB⟩
    have hw : x.wr = x.a := by rw [wr_of hr]; unfold wA; rw [if_pos (by omega)]
    by_cases hz : inM p.st.mem (wrap32 (vb + x.i)) = true
    · rw [if_pos hz, if_pos hz]
      exact ⟨0, _, rfl, rfl, ⟨ov, rd, h.stay hB, Nat.le_succ _⟩, Kept.of_bel hB, rfl, fun _ => ⟨hw.symm, fun _ => rfl⟩⟩
    · rw [if_neg hz, if_neg hz]
      exact ⟨3, _, rfl, rfl, ⟨ov, rd, h.stay hB, Nat.le_succ _⟩, Kept.of_bel hB, rfl, fun q => absurd q (by decide)⟩
  · rw [do_sw ho, ho]
    refine (eff13 h x.a x.b x.c x.i va vb vd (.slice ai I.length ci) ha hb (by omega)).mono ?_
    rintro e W' ⟨rfl, h', hK⟩
    have hw : x.wr = 0 := by rw [wr_of hr]; unfold wA; rw [if_neg (by omega), if_neg (by omega), if_neg (by omega)]
    unfold storeP
    by_cases hz : inM p.st.mem (wrap32 (vb + x.i)) = true
    · rw [if_pos hz, if_pos hz]
      exact ⟨0, _, rfl, rfl, ⟨ov, rd, h', Nat.le_succ _⟩, hK, rfl, fun _ => ⟨by rw [hw]; exact hlr, fun q => absurd hw q⟩⟩
    · rw [if_neg hz, if_neg hz]
      have hp : putM p.st.mem (wrap32 (vb + x.i)) va = p.st.mem := by unfold putM; rw [if_neg hz]
      rw [hp] at h'
      exact ⟨3, _, rfl, rfl, ⟨ov, rd, h', Nat.le_succ _⟩, hK, rfl, fun q => absurd q (by decide)⟩
  · rw [do_chk ho, ho]
    refine (eff14 h x.a x.b x.c x.i va vb vd (.slice ai I.length ci) hb (by omega)).mono ?_
    rintro e W' ⟨rfl, hB⟩
    have hw : x.wr = 0 := by rw [wr_of hr]; unfold wA; rw [if_neg (by omega), if_neg (by omega), if_neg (by omega)]
    exact ⟨_, _, rfl, rfl, ⟨ov, rd, h.stay hB, Nat.le_succ _⟩, Kept.of_bel hB, rfl, fun _ => ⟨by rw [hw]; exact hlr, fun q => absurd hw q⟩⟩
  · rw [do_sys hr ho, ho]
    have hi3 : x.i = 0 ∨ x.i = 1 ∨ x.i = 2 := right20 (a := x.a) (b := x.b) (c := x.c) (by rw [← ho]; exact hr)
    have hw : x.wr = sW x.i := by rw [wr_of hr]; unfold wA; rw [if_neg (by omega), if_neg (by omega), if_pos ho]
    rcases hi3 with q | q | q
    · rw [q, if_neg (by decide), if_neg (by decide)]
      refine (eff200 h x.a x.b x.c va vb vd (.slice ai I.length ci) hb).mono ?_
      rintro e W' ⟨rfl, hB⟩
      exact ⟨1, _, rfl, rfl, ⟨ov, rd, h.stay hB, Nat.le_succ _⟩, Kept.of_bel hB, rfl, fun q => absurd q (by decide)⟩
    · rw [q, if_pos rfl]
      rcases Nat.lt_or_ge rd I.length with hl | hl
      · refine (eff201c h x.a x.b x.c va vb vd ai ci hb hl hi hI hrd).mono ?_
        rintro e W' ⟨rfl, h', hK⟩
        have hin : p.st.inp = (I[rd]?.getD 0) :: I.drop (rd + 1) := by
          rw [h.inp, List.drop_eq_getElem_cons hl]
          simp [hl]
        rw [hin]
        exact ⟨0, _, rfl, rfl, ⟨ov, rd + 1, h', Nat.le_refl _⟩, hK, rfl, fun _ => ⟨by rw [hw, q]; rfl, fun _ => rfl⟩⟩
      · refine (eff201n h x.a x.b x.c va vb vd ai ci hb hl).mono ?_
        rintro e W' ⟨rfl, hB⟩
        have hin : p.st.inp = [] := by rw [h.inp, List.drop_eq_nil_iff]; exact hl
        rw [hin]
        exact ⟨6, _, rfl, rfl, ⟨ov, rd, h.stay hB, Nat.le_succ _⟩, Kept.of_bel hB, rfl, fun q => absurd q (by decide)⟩
    · rw [q, if_neg (by decide), if_pos rfl]
      unfold tellP
      by_cases hf : 10000 ≤ p.st.out.length
      · rw [if_pos hf]
        refine (eff202f h x.a x.b x.c va vb vd (.slice ai I.length ci) hb hf).mono ?_
        rintro e W' ⟨rfl, hB⟩
        exact ⟨9, _, rfl, rfl, ⟨ov, rd, h.stay hB, Nat.le_succ _⟩, Kept.of_bel hB, rfl, fun q => absurd q (by decide)⟩
      · rw [if_neg hf]
        refine (eff202 h x.a x.b x.c va vb vd (.slice ai I.length ci) hb (by omega)).mono ?_
        rintro e W' ⟨rfl, ⟨ov', h'⟩, hK⟩
        exact ⟨0, _, rfl, rfl, ⟨ov', rd, h', Nat.le_succ _⟩, hK, rfl, fun _ => ⟨by rw [hw, q]; exact hlr, fun qq => absurd (by rw [hw, q]; rfl) qq⟩⟩
end
end Go.Proofs.Ythkhlkcdhalkfaa
