/-
  The machine of five stages: load, store, take, tell, system.
-/
import Derived.Test.YthkhlkcdhalkfaaPe
import Derived.Deep.RegionHeld3
import Derived.Deep.AppendLies
import Derived.Deep.RegionLaw
namespace Go.Proofs.Ythkhlkcdhalkfaa
set_option maxRecDepth 20000
set_option linter.unusedVariables false
open Go.ChangeShapes Go.WideShapes Go.ChangeAt Go.RowKit

section
variable {A W W' : World} {b bm g : Nat} {cv iv : Value} {X : List Ins} {p : Pt}
theorem pload_any (h : IsQ iv A W b bm g cv X p) (x : Ins) (z : Int) :
    Calls Try.prog 51 #[.pointer (some ⟨b, 0, none⟩), .agg #[.int .i64 x.o, .int .i64 x.a, .int .i64 x.b, .int .i64 x.c, .int .i64 x.i], .int .i64 z] W fun e W' => e = .returned (.int .i64 (loadP x z p).1) ∧ IsQ iv A W' b bm g cv X (loadP x z p).2 ∧ Kept (MutP A.heap.size) W W' := by
  have hB : Bel W (W.alloc (insB x.o x.a x.b x.c x.i)) := (Bel.refl W).alloc _
  have h1 := h.stay hB
  have c1 := h.codeAt.2
  have lb := h.lt
  have hl := load_gen h1.isM z
  unfold insB at hl
  have HW := hidm (pwrite_any h1 x (getM p.st.mem z) (get_wd h1.ok.ok.cells z))
  have H1 := hidm h1
  unfold loadP
  by_cases hz : inM p.st.mem z = true
  · rw [if_pos hz]
    rw [hz] at hl
    have HL := hidm hl
    clear hl hz h1 h hB
    go_enter Try.func51, Try.ntmps51
    go_wp2_with (first
      | (go_at_call 74; refine (Hid.out HL).mono ?_; rintro e w' ⟨rfl, rfl⟩)
      | (go_at_call 47; refine (Hid.out HW).mono ?_; rintro e w' ⟨rfl, q1, q2⟩))
    go_ret
    exact ⟨rfl, q1, (Kept.alloc _ _ _).trans q2⟩
  · rw [if_neg hz]
    rw [show inM p.st.mem z = false by simpa using hz] at hl
    have HL := hidm hl
    clear hl hz h1 h hB
    go_enter Try.func51, Try.ntmps51
    go_wp2_with (first
      | (go_at_call 74; refine (Hid.out HL).mono ?_; rintro e w' ⟨rfl, rfl⟩))
    go_ret
    exact ⟨rfl, Hid.out H1, Kept.alloc _ _ _⟩
theorem IsQ.stored (h : IsQ iv A W b bm g cv X p) (z v : Int) (hm : IsM A.heap.size W' bm g (putM p.st.mem z v)) (hk : Kept (fun j _ => j = g) W W') :
    IsQ iv A W' b bm g cv X { p with st := { p.st with mem := putM p.st.mem z v } } ∧ Kept (MutP A.heap.size) W W' := by
  obtain ⟨ov, h⟩ := h
  obtain ⟨n1, n2⟩ := h.bne
  have hk2 : Kept (MutP A.heap.size) W W' := hk.mono (fun k o ho e => by subst e; exact mutP_row h.mem.row h.mem.lowg o ho)
  refine ⟨⟨ov, hk.block b _ h.box n2.symm, h.low, hm, h.code, h.inp, row_kept h.out hk (fun k c f e1 e2 => h.apart (by rw [e1, e2])), h.apart, keptP_bel h.bel hk2, ok_memP h.ok z v, ?_, h.leno⟩, hk2⟩
  show (putM p.st.mem z v).length ≤ 32000
  rw [put_len]; exact h.lenm
theorem pstore_any (h : IsQ iv A W b bm g cv X p) (z v : Int) :
    Calls Try.prog 53 #[.pointer (some ⟨b, 0, none⟩), .int .i64 z, .int .i64 v] W fun e W' => e = .returned (.int .i64 (storeP z v p).1) ∧ IsQ iv A W' b bm g cv X (storeP z v p).2 ∧ Kept (MutP A.heap.size) W W' := by
  have c1 := h.codeAt.2
  have hl := store_gen h.isM z v
  unfold storeP
  by_cases hz : inM p.st.mem z = true
  · rw [if_pos hz]
    rw [hz] at hl
    have HL := hidm hl
    clear hl hz
    go_enter Try.func53, Try.ntmps53
    go_wp2_with (first
      | (go_at_call 75; refine (Hid.out HL).mono ?_; rintro e w' ⟨rfl, q1, q2⟩))
    go_ret
    obtain ⟨r1, r2⟩ := h.stored z v q1 q2
    exact ⟨rfl, r1, r2⟩
  · rw [if_neg hz]
    have hz' : inM p.st.mem z = false := by simpa using hz
    have hp : putM p.st.mem z v = p.st.mem := by unfold putM; rw [if_neg hz]
    rw [hz'] at hl
    have HL := hidm hl
    clear hl hz hz'
    have HP := hidm hp
    clear hp
    go_enter Try.func53, Try.ntmps53
    go_wp2_with (first
      | (go_at_call 75; refine (Hid.out HL).mono ?_; rintro e w' ⟨rfl, q1, q2⟩))
    go_ret
    obtain ⟨r1, r2⟩ := h.stored z v q1 q2
    rw [Hid.out HP] at r1
    exact ⟨rfl, r1, r2⟩
theorem take_nil (h : IsQ iv A W b bm g cv X p) (x : Ins) (hi : p.st.inp = []) :
    Calls Try.prog 76 #[.pointer (some ⟨b, 0, none⟩), .agg #[.int .i64 x.o, .int .i64 x.a, .int .i64 x.b, .int .i64 x.c, .int .i64 x.i]] W fun e W' => e = .returned (.int .i64 6) ∧ Bel W W' := by
  have lb := h.lt
  obtain ⟨ov, h⟩ := h
  obtain ⟨ao, cap, rfl, hc, hr⟩ := h.inp
  have c1 : W.cell? ⟨b, 38, none⟩ = some (.slice ao p.st.inp.length cap) := by rw [cell_of h.box]; exact boxP_at h.ok.ok.len 4
  rw [hi] at c1
  clear h
  go_enter Try.func76, Try.ntmps76
  go_wp2
  go_ret
  exact ⟨rfl, (Bel.refl W).alloc _⟩
theorem IsP.putInp {A W : World} {b bm g : Nat} {cv iv ov iv' : Value} {X : List Ins} {p : Pt} {r : List Int} (h : IsP A W b bm g cv iv ov X p) (hi : IntsC A iv' r) : IsP A (W.setCell ⟨b, 38, none⟩ iv') b bm g cv iv' ov X { p with st := { p.st with inp := r } } ∧ Kept (MutP A.heap.size) W (W.setCell ⟨b, 38, none⟩ iv') :=
  h.put (p' := { p with st := { p.st with inp := r } }) ((heap_set_same h.box).trans (by rw [boxP, boxP_set _ h.ok.ok.len 4]; rfl)) (kept_one _ _ _ _) rfl rfl hi (ok_inpP h.ok r)
theorem writeP_inp (x : Ins) (v : Int) (p : Pt) : (writeP x v p).st.inp = p.st.inp := by unfold writeP setP; split <;> rfl
set_option maxHeartbeats 1000000 in
theorem take_cons (h : IsQ iv A W b bm g cv X p) (x : Ins) (n : Int) (r : List Int) (hi : p.st.inp = n :: r) :
    Calls Try.prog 76 #[.pointer (some ⟨b, 0, none⟩), .agg #[.int .i64 x.o, .int .i64 x.a, .int .i64 x.b, .int .i64 x.c, .int .i64 x.i]] W fun e W' => e = .returned (.int .i64 0) ∧ (∃ iv', IsQ iv' A W' b bm g cv X { writeP x (wrap32 n) p with st := { (writeP x (wrap32 n) p).st with inp := r } }) ∧ Kept (MutP A.heap.size) W W' := by
  have hB : Bel W (W.alloc (insB x.o x.a x.b x.c x.i)) := (Bel.refl W).alloc _
  have hx := heap_new W (insB x.o x.a x.b x.c x.i)
  have h1 := h.stay hB
  have HW := hidm (pwrite_any (h1.stay ((Bel.refl _).drew)) x (wrap32 n) (wd_wrap n))
  have hwi := writeP_inp x (wrap32 n) p
  rw [hi] at hwi
  have HWI := hidm hwi
  have HK : Hid (Kept (MutP A.heap.size) W (W.alloc (insB x.o x.a x.b x.c x.i))) := hidm (Kept.alloc _ _ _)
  have HA := hidm h1.bel
  have HX := hidm hx
  have lb := h.lt
  obtain ⟨ov, h0⟩ := h
  obtain ⟨ao, cap, rfl, hc, hr⟩ := h0.inp
  have c1 : W.cell? ⟨b, 38, none⟩ = some (.slice ao p.st.inp.length cap) := by rw [cell_of h0.box]; exact boxP_at h0.ok.ok.len 4
  obtain ⟨b0, o0, rfl, hb0, hcell⟩ := hr (by rw [hi]; simp)
  have e1 := hcell 0 (by rw [hi]; simp)
  have HC := hidm hcell
  rw [hi] at HC hc
  rw [hi] at e1
  simp only [List.getElem?_cons_zero, Option.getD_some, Nat.add_zero] at e1
  have HE := hidm e1
  rw [← (bcell h0.bel).1 _ _ hb0] at e1
  have hb1 : b0 < W.heap.size := Nat.lt_of_lt_of_le hb0 h0.bel.size
  rw [hi] at c1
  simp only [List.length_cons] at c1 hc
  have HI := hidm hi
  clear hr hcell h1 h0 hi hwi hB hx
  go_enter Try.func76, Try.ntmps76
  go_wp2_with fail
  go_region_held3 (fun w' => w'.cell? ⟨W.heap.size, 0, none⟩ = some (.int .i64 x.o) ∧ w'.cell? ⟨W.heap.size, 1, none⟩ = some (.int .i64 x.a) ∧ w'.cell? ⟨W.heap.size, 2, none⟩ = some (.int .i64 x.b) ∧ w'.cell? ⟨W.heap.size, 3, none⟩ = some (.int .i64 x.c) ∧ w'.cell? ⟨W.heap.size, 4, none⟩ = some (.int .i64 x.i) ∧ w'.cell? ⟨b, 38, none⟩ = some (.slice (some ⟨b0, o0, none⟩) (r.length + 1) cap) ∧ w'.cell? ⟨b0, o0, none⟩ = some (.int .i64 n)) (go_keep) (first
    | (go_at_call 50; refine (wrap_any _ _).mono ?_; rintro e w' ⟨rfl, rfl⟩)
    | (go_at_call 47; refine (Hid.out HW).mono ?_; rintro e w2 ⟨rfl, q1, q2⟩; obtain ⟨d0, d1, d2, d3, d4⟩ := insB_cells (insP_kept ((Kept.drew _ _).trans q2) (Hid.out HX)); have hb2 : b0 < (W.alloc (insB x.o x.a x.b x.c x.i)).heap.size := (by simp; omega); have c2 : w2.cell? ⟨b, 38, none⟩ = some (.slice (some ⟨b0, o0, none⟩) (r.length + 1) cap) := (by obtain ⟨ov2, q⟩ := q1; rw [cell_of q.box]; exact (boxP_at q.ok.ok.len 4).trans (by rw [Hid.out HI]; rfl)); have e2 := (((bcell (keptP_bel (Hid.out HA) ((Kept.drew _ _).trans q2))).1 b0 o0 hb0).trans (Hid.out HE)); have f2 := q1.fz 38))
  go_wp2
  all_goals
    go_ret
    obtain ⟨ov2, q⟩ := q1
    refine ⟨rfl, ⟨_, ov2, (q.putInp ?_).1⟩, ((Hid.out HK).trans ((Kept.drew _ _).trans q2)).trans (q.putInp (r := r) ?_).2⟩
    all_goals exact IntsC.tail (Hid.out HC) hb0 _ (by omega) _ (fun hn => by first | rfl | (exfalso; omega))
end
end Go.Proofs.Ythkhlkcdhalkfaa
