/-
  Mathematics of the program's line: what each awaits, what may stand, what may stand soon.
-/
import Derived.Test.YtpmofaajkhllpaaOr11
namespace Go.Proofs.Ytpmofaajkhllpaa
set_option maxRecDepth 20000
set_option linter.unusedVariables false
open Go.ChangeShapes Go.WideShapes Go.ChangeAt Go.RowKit

/-- How many of those that one awaits do not stand. -/
def awW (X : List Ins) (Z : List Int) (j : Nat) : Nat := ((ofL X j).filter fun a => decide (whereI Z a < 0)).length
theorem aw_zero (X : List Ins) (Z : List Int) (j : Nat) : awW X Z j = 0 ↔ ∀ a ∈ ofL X j, 0 ≤ whereI Z a := by
  unfold awW
  rw [List.length_eq_zero_iff, List.filter_eq_nil_iff]
  constructor
  · intro h a ha
    have := h a ha
    simp at this
    omega
  · intro h a ha
    have := h a ha
    simp
    omega
theorem aw_nil (X : List Ins) (j : Nat) : awW X [] j = (ofL X j).length := by
  unfold awW
  rw [List.filter_eq_self.2]
  intro a ha
  rw [where_nil]
  rfl
/-- Readiness, by those that one awaits. -/
theorem ready_iff {X : List Ins} {Z : List Int} (hk : KeepI X Z) {j : Nat} (hj : j < X.length) : ReadyP X Z j ↔ ¬ Stands Z j ∧ ∀ a : Nat, (a : Int) ∈ ofL X j → Stands Z a ∧ farI (xAt X a) (xAt X j) ≤ Z.length - whereI Z a := by
  constructor
  · rintro ⟨h1, h2⟩
    refine ⟨h1, fun a ha => ?_⟩
    obtain ⟨b, e, hb, hf⟩ := ofL_mem X j a ha
    obtain rfl : a = b := by omega
    exact h2 a hb hf
  · rintro ⟨h1, h2⟩
    refine ⟨h1, fun i hi hf => ?_⟩
    rcases ofL_cover X j i hi hf with h | ⟨c, hc, hic, hcj, hfc⟩
    · exact h2 i h
    · obtain ⟨c1, c2⟩ := h2 c hc
      obtain ⟨i1, i2⟩ := hk i c hic (by omega) hfc c1
      obtain ⟨b, e, hb, hfb⟩ := ofL_mem X j c hc
      obtain rfl : c = b := by omega
      have := farI_bd (xAt X i) (xAt X j)
      exact ⟨i1, by omega⟩
theorem ready_aw {X : List Ins} {Z : List Int} {j : Nat} (h : ReadyP X Z j) : awW X Z j = 0 := by
  rw [aw_zero]
  intro a ha
  obtain ⟨b, rfl, hb, hf⟩ := ofL_mem X j a ha
  exact (h.2 b hb hf).1
/-- Those that await nobody may stand one place later, whatever stands here. -/
theorem ready_soon {X : List Ins} {Z : List Int} {x : Int} (hk : KeepI X (Z ++ [x])) {j : Nat} (hj : j < X.length) (hn : ¬ Stands (Z ++ [x]) j) (ha : awW X Z j = 0) : ReadyP X (Z ++ [x]) j := by
  rw [ready_iff hk hj]
  refine ⟨hn, fun a hm => ?_⟩
  have h1 : Stands Z a := (aw_zero X Z j).1 ha a hm
  obtain ⟨h2, h3⟩ := stands_snoc (x := x) h1
  refine ⟨h2, ?_⟩
  have := farI_bd (xAt X a) (xAt X j)
  have := where_bd Z a
  rw [h3, List.length_append, List.length_singleton]
  omega

/-- A list of candidates, each once: those of which P holds. -/
def IsR (X : List Ins) (P : Nat → Prop) (R : List Pr) : Prop := (R.map Prod.fst).Nodup ∧ ∀ c, c ∈ R ↔ ∃ j : Nat, j < X.length ∧ c = ((j : Int), hAt X j) ∧ P j
/-- A list of places, each once: those of which P holds. -/
def IsK (X : List Ins) (P : Nat → Prop) (Q : List Int) : Prop := Q.Nodup ∧ ∀ x, x ∈ Q ↔ ∃ j : Nat, j < X.length ∧ x = (j : Int) ∧ P j
def cand (X : List Ins) (x : Int) : Pr := (x, hAt X x.toNat)
theorem IsR.perm {X : List Ins} {P : Nat → Prop} {R R' : List Pr} (h : IsR X P R) (hp : R'.Perm R) : IsR X P R' :=
  ⟨(hp.map Prod.fst).nodup_iff.2 h.1, fun c => hp.mem_iff.trans (h.2 c)⟩
theorem IsR.congr {X : List Ins} {P P' : Nat → Prop} {R : List Pr} (h : IsR X P R) (e : ∀ j, j < X.length → (P j ↔ P' j)) : IsR X P' R :=
  ⟨h.1, fun c => (h.2 c).trans ⟨fun ⟨j, a, b, d⟩ => ⟨j, a, b, (e j a).1 d⟩, fun ⟨j, a, b, d⟩ => ⟨j, a, b, (e j a).2 d⟩⟩⟩
theorem IsK.congr {X : List Ins} {P P' : Nat → Prop} {Q : List Int} (h : IsK X P Q) (e : ∀ j, j < X.length → (P j ↔ P' j)) : IsK X P' Q :=
  ⟨h.1, fun c => (h.2 c).trans ⟨fun ⟨j, a, b, d⟩ => ⟨j, a, b, (e j a).1 d⟩, fun ⟨j, a, b, d⟩ => ⟨j, a, b, (e j a).2 d⟩⟩⟩
theorem IsR.len {X : List Ins} {P : Nat → Prop} {R : List Pr} (h : IsR X P R) : R.length ≤ X.length := by
  have := nodup_bound X.length (R.map Prod.fst) h.1 fun x hx => by
    obtain ⟨c, hc, rfl⟩ := List.mem_map.1 hx
    obtain ⟨j, hj, rfl, _⟩ := (h.2 c).1 hc
    simp only
    omega
  simpa using this
theorem IsK.len {X : List Ins} {P : Nat → Prop} {Q : List Int} (h : IsK X P Q) : Q.length ≤ X.length :=
  nodup_bound X.length Q h.1 fun x hx => by
    obtain ⟨j, hj, rfl, _⟩ := (h.2 x).1 hx
    omega
theorem IsR.nil {X : List Ins} {P : Nat → Prop} (h : ∀ j, j < X.length → ¬ P j) : IsR X P [] :=
  ⟨by simp, fun c => by constructor; intro q; simp at q; rintro ⟨j, a, _, b⟩; exact absurd b (h j a)⟩
theorem IsK.nil {X : List Ins} {P : Nat → Prop} (h : ∀ j, j < X.length → ¬ P j) : IsK X P [] :=
  ⟨by simp, fun c => by constructor; intro q; simp at q; rintro ⟨j, a, _, b⟩; exact absurd b (h j a)⟩
theorem IsR.none {X : List Ins} {P : Nat → Prop} (h : IsR X P []) : ∀ j, j < X.length → ¬ P j := fun j hj hp => by
  have := (h.2 ((j : Int), hAt X j)).2 ⟨j, hj, rfl, hp⟩
  simp at this
theorem IsR.cons {X : List Ins} {P : Nat → Prop} {R : List Pr} (h : IsR X P R) {j : Nat} (hj : j < X.length) (hn : ¬ P j) : IsR X (fun i => P i ∨ i = j) (((j : Int), hAt X j) :: R) := by
  refine ⟨?_, fun c => ?_⟩
  · rw [List.map_cons, List.nodup_cons]
    refine ⟨fun q => ?_, h.1⟩
    obtain ⟨c, hc, e⟩ := List.mem_map.1 q
    obtain ⟨i, hi, rfl, hp⟩ := (h.2 c).1 hc
    simp only at e
    obtain rfl : i = j := by omega
    exact hn hp
  · rw [List.mem_cons, h.2 c]
    constructor
    · rintro (rfl | ⟨i, a, b, d⟩)
      · exact ⟨j, hj, rfl, .inr rfl⟩
      · exact ⟨i, a, b, .inl d⟩
    · rintro ⟨i, a, b, d | d⟩
      · exact .inr ⟨i, a, b, d⟩
      · subst d; exact .inl b
theorem IsK.snoc {X : List Ins} {P : Nat → Prop} {Q : List Int} (h : IsK X P Q) {j : Nat} (hj : j < X.length) (hn : ¬ P j) : IsK X (fun i => P i ∨ i = j) (Q ++ [(j : Int)]) := by
  refine ⟨?_, fun c => ?_⟩
  · rw [List.nodup_append]
    refine ⟨h.1, by simp, fun a ha b hb e => ?_⟩
    simp only [List.mem_singleton] at hb
    subst hb
    subst e
    obtain ⟨i, hi, e, hp⟩ := (h.2 _).1 ha
    obtain rfl : j = i := by omega
    exact hn hp
  · rw [List.mem_append, h.2 c, List.mem_singleton]
    constructor
    · rintro (⟨i, a, b, d⟩ | rfl)
      · exact ⟨i, a, b, .inl d⟩
      · exact ⟨j, hj, rfl, .inr rfl⟩
    · rintro ⟨i, a, b, d | d⟩
      · exact .inl ⟨i, a, b, d⟩
      · subst d; exact .inr b
/-- All of a list of places, added to those that may stand. -/
theorem IsR.app {X : List Ins} {P P' : Nat → Prop} {R : List Pr} : ∀ {Q : List Int} {P' : Nat → Prop}, IsR X P R → IsK X P' Q → (∀ j, j < X.length → P j → ¬ P' j) → IsR X (fun j => P j ∨ P' j) (Q.map (cand X) ++ R) := by
  intro Q P' h k hd
  refine ⟨?_, fun c => ?_⟩
  · rw [List.map_append, List.nodup_append]
    have e : (Q.map (cand X)).map Prod.fst = Q := by rw [List.map_map]; simp [Function.comp_def, cand]
    rw [e]
    refine ⟨k.1, h.1, fun a ha b hb e2 => ?_⟩
    subst e2
    obtain ⟨i, hi, e3, hp'⟩ := (k.2 a).1 ha
    obtain ⟨c, hc, e4⟩ := List.mem_map.1 hb
    obtain ⟨i', hi', rfl, hp⟩ := (h.2 c).1 hc
    simp only at e4
    obtain rfl : i = i' := by omega
    exact hd i hi hp hp'
  · rw [List.mem_append, h.2 c, List.mem_map]
    constructor
    · rintro (⟨x, hx, rfl⟩ | ⟨j, a, b, d⟩)
      · obtain ⟨i, hi, rfl, hp⟩ := (k.2 x).1 hx
        exact ⟨i, hi, by simp [cand], .inr hp⟩
      · exact ⟨j, a, b, .inl d⟩
    · rintro ⟨j, a, b, d | d⟩
      · exact .inr ⟨j, a, b, d⟩
      · exact .inl ⟨j, (k.2 _).2 ⟨j, a, rfl, d⟩, by rw [b]; simp [cand]⟩
/-- One taken out. -/
theorem IsR.tail {X : List Ins} {P : Nat → Prop} {R : List Pr} {c : Pr} (h : IsR X P (c :: R)) : ∃ j : Nat, j < X.length ∧ c = ((j : Int), hAt X j) ∧ P j ∧ IsR X (fun i => P i ∧ i ≠ j) R := by
  obtain ⟨j, hj, e, hp⟩ := (h.2 c).1 (List.mem_cons_self ..)
  have hn := h.1
  rw [List.map_cons, List.nodup_cons] at hn
  refine ⟨j, hj, e, hp, hn.2, fun d => ?_⟩
  have hd := h.2 d
  rw [List.mem_cons] at hd
  constructor
  · intro q
    obtain ⟨i, a, b, g⟩ := hd.1 (.inr q)
    refine ⟨i, a, b, g, fun e2 => hn.1 ?_⟩
    subst e2
    rw [e]
    exact List.mem_map.2 ⟨d, q, by rw [b]⟩
  · rintro ⟨i, a, b, g1, g2⟩
    rcases hd.2 ⟨i, a, b, g1⟩ with q | q
    · rw [q, e] at b
      simp only [Prod.mk.injEq] at b
      omega
    · exact q

/-- The line, so many places made. -/
structure LI (X : List Ins) (Z : List Int) (aw : Nat → Int) (R : List Pr) (Q : List Int) : Prop where
  steps : Steps X Z
  aws : ∀ j, j < X.length → aw j = awW X Z j
  rs : IsR X (ReadyP X Z) R
  qs : IsK X (fun j => ¬ Stands Z j ∧ awW X Z j = 0 ∧ ¬ ReadyP X Z j) Q
theorem LI.best {X : List Ins} {Z : List Int} {aw : Nat → Int} {R R' : List Pr} {Q : List Int} {c : Pr} (h : LI X Z aw R Q) (hp : (c :: R').Perm R) (hl : ∀ d ∈ R, le2 c d) : ∃ j : Nat, j < X.length ∧ c = ((j : Int), hAt X j) ∧ ReadyP X Z j ∧ BestP X Z j ∧ IsR X (fun i => ReadyP X Z i ∧ i ≠ j) R' := by
  obtain ⟨j, hj, e, hr, ht⟩ := (h.rs.perm hp).tail
  refine ⟨j, hj, e, hr, .inr ⟨j, rfl, hj, hr, fun k hk hrk => ?_⟩, ht⟩
  rw [← e]
  exact hl _ ((h.rs.2 _).2 ⟨k, hk, rfl, hrk⟩)
theorem LI.none {X : List Ins} {Z : List Int} {aw : Nat → Int} {Q : List Int} (h : LI X Z aw [] Q) : BestP X Z (-1) := .inl ⟨rfl, h.rs.none⟩
theorem stands_free {Z : List Int} {j : Nat} : Stands (Z ++ [-1]) j ↔ Stands Z j :=
  ⟨fun h => Classical.byContradiction fun q => by have := (stands_new h q).1; omega, fun h => (stands_snoc h).1⟩
theorem aw_free (X : List Ins) (Z : List Int) (j : Nat) : awW X (Z ++ [-1]) j = awW X Z j := by
  unfold awW
  congr 1
  apply List.filter_congr
  intro a ha
  obtain ⟨b, rfl, _, _⟩ := ofL_mem X j a ha
  have := @stands_free Z b
  unfold Stands at this
  congr 1
  rw [eq_iff_iff]
  omega
/-- A free place. -/
theorem LI.free {X : List Ins} {Z : List Int} {aw : Nat → Int} {R : List Pr} {Q : List Int} (h : LI X Z aw [] Q) (hn : ∃ j, j < X.length ∧ ¬ Stands Z j) (hp : R.Perm (Q.map (cand X) ++ [])) : LI X (Z ++ [-1]) aw R [] := by
  have hs : Steps X (Z ++ [-1]) := .snoc h.steps hn h.none
  have hk := steps_keep hs
  have hr0 := h.rs.none
  have hready : ∀ j, j < X.length → (¬ Stands Z j ∧ awW X Z j = 0 ↔ ReadyP X (Z ++ [-1]) j) := fun j hj => by
    constructor
    · rintro ⟨h1, h2⟩
      exact ready_soon hk hj (fun q => h1 (stands_free.1 q)) h2
    · intro q
      refine ⟨fun q2 => q.1 (stands_free.2 q2), ?_⟩
      rw [← aw_free]
      exact ready_aw q
  refine ⟨hs, fun j hj => by rw [aw_free]; exact h.aws j hj, ?_, ?_⟩
  · have := (IsR.app (P' := fun _ => True) h.rs h.qs (fun j _ a b => b.2.2 a)).perm hp
    refine this.congr fun j hj => ?_
    rw [← hready j hj]
    have := hr0 j hj
    constructor
    · rintro (q | q)
      · exact absurd q this
      · exact ⟨q.1, q.2.1⟩
    · intro q
      exact .inr ⟨q.1, q.2, this⟩
  · refine IsK.nil fun j hj q => q.2.2 ((hready j hj).1 ⟨fun q2 => q.1 (stands_free.2 q2), ?_⟩)
    rw [← aw_free]
    exact q.2.1

/-- Those by which c is awaited, as the program lists them, so many instructions looked at. -/
def behL (X : List Ins) (c k : Nat) : List Pr := (List.range k).flatMap fun j => List.replicate ((ofL X j).count (c : Int)) ((j : Int), farI (xAt X c) (xAt X j))
theorem behL_succ (X : List Ins) (c k : Nat) : behL X c (k + 1) = behL X c k ++ List.replicate ((ofL X k).count (c : Int)) ((k : Int), farI (xAt X c) (xAt X k)) := by
  unfold behL
  rw [List.range_succ, List.flatMap_append]
  simp
def cntF (F : List Pr) (j : Nat) : Nat := F.countP fun f => f.1 == (j : Int)
theorem cntF_app (F G : List Pr) (j : Nat) : cntF (F ++ G) j = cntF F j + cntF G j := List.countP_append
theorem cntF_rep (m k j : Nat) (d : Int) : cntF (List.replicate m ((k : Int), d)) j = if k = j then m else 0 := by
  unfold cntF
  rw [List.countP_replicate]
  by_cases e : k = j
  · subst e; simp
  · rw [if_neg e, if_neg (by simp; omega)]
theorem behL_cnt (X : List Ins) (c j : Nat) : ∀ k, cntF (behL X c k) j = if j < k then (ofL X j).count (c : Int) else 0
  | 0 => by simp [behL, cntF]
  | k + 1 => by
    rw [behL_succ, cntF_app, behL_cnt X c j k, cntF_rep]
    by_cases e : k = j
    · subst e; simp
    · by_cases q : j < k
      · rw [if_pos q, if_neg e, if_pos (by omega)]; omega
      · rw [if_neg q, if_neg e, if_neg (by omega)]
theorem behL_mem (X : List Ins) (c : Nat) (f : Pr) : ∀ k, f ∈ behL X c k → ∃ j : Nat, j < k ∧ f = ((j : Int), farI (xAt X c) (xAt X j)) ∧ (c : Int) ∈ ofL X j := by
  intro k h
  unfold behL at h
  rw [List.mem_flatMap] at h
  obtain ⟨j, hj, h⟩ := h
  rw [List.mem_range] at hj
  rw [List.mem_replicate] at h
  exact ⟨j, hj, h.2, List.count_pos_iff.1 (by omega)⟩
theorem behL_len (X : List Ins) (c : Nat) : ∀ k, (behL X c k).length ≤ k * (k + 4)
  | 0 => by simp [behL]
  | k + 1 => by
    have h1 := behL_len X c k
    have h2 := List.count_le_length (a := (c : Int)) (l := ofL X k)
    have h3 := ofL_len X k
    rw [behL_succ, List.length_append, List.length_replicate, Nat.succ_mul]
    have h4 : k * (k + 4) ≤ k * (k + 1 + 4) := Nat.mul_le_mul_left _ (by omega)
    omega
/-- One more stands: each awaits one less for each time that it awaited that one. -/
theorem aw_stand {X : List Ins} {Z : List Int} {c : Nat} (hn : ¬ Stands Z c) (j : Nat) : awW X Z j = awW X (Z ++ [(c : Int)]) j + (ofL X j).count (c : Int) := by
  unfold awW
  have key : ∀ L : List Int, (∀ a ∈ L, ∃ b : Nat, a = b) → (L.filter fun a => decide (whereI Z a < 0)).length = (L.filter fun a => decide (whereI (Z ++ [(c : Int)]) a < 0)).length + L.count (c : Int) := by
    intro L
    induction L with
    | nil => intro _; rfl
    | cons x r ih =>
      intro h
      have ih := ih fun a ha => h a (List.mem_cons_of_mem _ ha)
      obtain ⟨b, rfl⟩ := h x (List.mem_cons_self ..)
      rw [List.filter_cons, List.filter_cons, List.count_cons]
      by_cases e : b = c
      · subst e
        have h1 := not_stands hn
        have h2 := where_snoc Z b b
        rw [if_neg hn, if_pos rfl] at h2
        rw [if_pos (by simp; omega), if_neg (by simp; omega)]
        simp
        omega
      · have h3 : ¬ ((b : Int) == (c : Int)) = true := by simp; omega
        rw [if_neg h3]
        by_cases q : Stands Z b
        · have q2 := (stands_snoc (x := (c : Int)) q).2
          have q3 : 0 ≤ whereI Z b := q
          rw [if_neg (by simp; omega), if_neg (by simp; omega)]
          omega
        · have q1 := not_stands q
          have q2 : ¬ Stands (Z ++ [(c : Int)]) b := fun s => by have := (stands_new s q).1; omega
          have q3 := not_stands q2
          rw [if_pos (by simp; omega), if_pos (by simp; omega)]
          simp only [List.length_cons]
          omega
  exact key _ fun a ha => by
    obtain ⟨b, h1, _⟩ := ofL_mem X j a ha
    exact ⟨b, h1⟩
/-- While one is told to stand: so many of those by which it is awaited told. -/
structure SI (X : List Ins) (Z : List Int) (c k : Nat) (aw : Nat → Int) (R : List Pr) (Q : List Int) : Prop where
  aws : ∀ j, j < X.length → aw j = awW X Z j - (cntF ((behL X c X.length).take k) j : Int)
  rs : IsR X (fun j => ¬ Stands (Z ++ [(c : Int)]) j ∧ aw j = 0 ∧ ReadyP X (Z ++ [(c : Int)]) j) R
  qs : IsK X (fun j => ¬ Stands (Z ++ [(c : Int)]) j ∧ aw j = 0 ∧ ¬ ReadyP X (Z ++ [(c : Int)]) j) Q
theorem LI.stand {X : List Ins} {Z : List Int} {aw : Nat → Int} {R R1 R2 : List Pr} {Q : List Int} {c : Nat} (h : LI X Z aw R Q) (hc : c < X.length) (hr : ReadyP X Z c) (hb : BestP X Z c) (h1 : IsR X (fun i => ReadyP X Z i ∧ i ≠ c) R1) (hp : R2.Perm (Q.map (cand X) ++ R1)) : SI X Z c 0 aw R2 [] := by
  have hs : Steps X (Z ++ [(c : Int)]) := .snoc h.steps ⟨c, hc, hr.1⟩ hb
  have hk := steps_keep hs
  have hcs : Stands (Z ++ [(c : Int)]) c := by
    unfold Stands
    rw [where_snoc, if_neg hr.1, if_pos rfl]
    omega
  have hready : ∀ j, j < X.length → ¬ Stands (Z ++ [(c : Int)]) j → aw j = 0 → ReadyP X (Z ++ [(c : Int)]) j := fun j hj h1 h2 =>
    ready_soon hk hj h1 (by have := h.aws j hj; omega)
  refine ⟨fun j hj => by rw [h.aws j hj]; simp [cntF], ?_, IsK.nil fun j hj q => q.2.2 (hready j hj q.1 q.2.1)⟩
  have := (IsR.app (P' := fun _ => True) h1 h.qs (fun j _ a b => b.2.2 a.1)).perm hp
  refine this.congr fun j hj => ?_
  have haw := h.aws j hj
  constructor
  · rintro (⟨q1, q2⟩ | ⟨q1, q2, q3⟩)
    · have s1 : ¬ Stands (Z ++ [(c : Int)]) j := fun s => by have := (stands_new s q1.1).1; omega
      have s2 : aw j = 0 := by have := ready_aw q1; omega
      exact ⟨s1, s2, hready j hj s1 s2⟩
    · have e : j ≠ c := fun e => by subst e; exact q3 hr
      have s1 : ¬ Stands (Z ++ [(c : Int)]) j := fun s => by have := (stands_new s q1).1; omega
      exact ⟨s1, by omega, hready j hj s1 (by omega)⟩
  · rintro ⟨q1, q2, q3⟩
    have e : j ≠ c := fun e => by subst e; exact q1 hcs
    have s1 : ¬ Stands Z j := fun s => q1 (stands_snoc s).1
    by_cases q : ReadyP X Z j
    · exact .inl ⟨q, e⟩
    · exact .inr ⟨s1, by omega, q⟩
/-- What one step finds: one that awaits at least that one. -/
theorem SI.at_ {X : List Ins} {Z : List Int} {c k : Nat} {aw : Nat → Int} {R : List Pr} {Q : List Int} (h : SI X Z c k aw R Q) (hs : Steps X (Z ++ [(c : Int)])) (hn : ¬ Stands Z c) (hk : k < (behL X c X.length).length) :
    ∃ j : Nat, j < X.length ∧ (behL X c X.length).getD k pz = ((j : Int), farI (xAt X c) (xAt X j)) ∧ 1 ≤ aw j ∧ ¬ Stands (Z ++ [(c : Int)]) j ∧ (aw j = 1 → (ReadyP X (Z ++ [(c : Int)]) j ↔ ¬ 1 < farI (xAt X c) (xAt X j))) ∧
      ∀ i, i < X.length → (cntF ((behL X c X.length).take (k + 1)) i : Int) = cntF ((behL X c X.length).take k) i + (if i = j then 1 else 0) := by
  have hm : (behL X c X.length).getD k pz ∈ behL X c X.length := by
    rw [show (behL X c X.length).getD k pz = (behL X c X.length)[k] by simp [List.getD, hk]]
    exact List.getElem_mem hk
  obtain ⟨j, hj, e, hcj⟩ := behL_mem X c _ _ hm
  have hstep : ∀ i, (cntF ((behL X c X.length).take (k + 1)) i : Int) = cntF ((behL X c X.length).take k) i + (if i = j then 1 else 0) := fun i => by
    have e2 : (behL X c X.length).take (k + 1) = (behL X c X.length).take k ++ [(behL X c X.length).getD k pz] := by
      rw [List.take_succ_eq_append_getElem hk]; simp [List.getD, hk]
    rw [e2, cntF_app, e]
    have e3 : cntF [((j : Int), farI (xAt X c) (xAt X j))] i = if i = j then 1 else 0 := by
      unfold cntF
      by_cases q : i = j
      · subst q; simp
      · rw [if_neg q]; simp; omega
    rw [e3]
    split <;> simp
  have hall : ∀ i, i < X.length → ∀ m, (cntF ((behL X c X.length).take m) i : Int) ≤ (ofL X i).count (c : Int) := fun i hi m => by
    have e4 := behL_cnt X c i X.length
    rw [if_pos hi] at e4
    have e5 : cntF (behL X c X.length) i = cntF ((behL X c X.length).take m) i + cntF ((behL X c X.length).drop m) i := by rw [← cntF_app, List.take_append_drop]
    omega
  have hst := aw_stand (X := X) (Z := Z) hn j
  have h1 := hstep j
  rw [if_pos rfl] at h1
  have h2 := hall j hj (k + 1)
  have h3 := h.aws j hj
  have hkp := steps_keep hs
  obtain ⟨b, eb, hbj, hf⟩ := ofL_mem X j c hcj
  obtain rfl : c = b := by omega
  have hwc : whereI (Z ++ [(c : Int)]) c = Z.length := by rw [where_snoc, if_neg hn, if_pos rfl]
  have hnj : ¬ Stands (Z ++ [(c : Int)]) j := fun s => by
    have := (hkp c j hbj hj hf s).2
    have h5 := where_bd (Z ++ [(c : Int)]) j
    rw [List.length_append, List.length_singleton] at h5
    omega
  refine ⟨j, hj, e, by omega, hnj, fun ha => ?_, fun i _ => hstep i⟩
  have h0 : awW X (Z ++ [(c : Int)]) j = 0 := by omega
  rw [ready_iff hkp hj]
  constructor
  · rintro ⟨_, q⟩
    have := (q c hcj).2
    rw [hwc, List.length_append, List.length_singleton] at this
    omega
  · intro q
    refine ⟨hnj, fun a ha2 => ?_⟩
    have hsa : Stands (Z ++ [(c : Int)]) a := (aw_zero X _ j).1 h0 a ha2
    refine ⟨hsa, ?_⟩
    rw [List.length_append, List.length_singleton]
    by_cases e2 : Stands Z a
    · have e3 := (stands_snoc (x := (c : Int)) e2).2
      have e4 := where_bd Z a
      have e5 := farI_bd (xAt X a) (xAt X j)
      omega
    · have e3 := (stands_new hsa e2).1
      obtain rfl : c = a := by omega
      omega
/-- One step, after which one still awaits. -/
theorem SI.more {X : List Ins} {Z : List Int} {c k j : Nat} {aw aw' : Nat → Int} {R : List Pr} {Q : List Int} (h : SI X Z c k aw R Q)
    (hstep : ∀ i, i < X.length → (cntF ((behL X c X.length).take (k + 1)) i : Int) = cntF ((behL X c X.length).take k) i + (if i = j then 1 else 0))
    (ha : ∀ i, i < X.length → aw' i = if i = j then aw i - 1 else aw i) (h1 : 0 < aw j - 1) : SI X Z c (k + 1) aw' R Q := by
  have e : ∀ i, i < X.length → (aw i = 0 ↔ aw' i = 0) := fun i hi => by
    have := ha i hi
    by_cases q : i = j
    · subst q; rw [if_pos rfl] at this; omega
    · rw [if_neg q] at this; omega
  refine ⟨fun i hi => ?_, h.rs.congr fun i hi => by rw [e i hi], h.qs.congr fun i hi => by rw [e i hi]⟩
  rw [ha i hi, hstep i hi, h.aws i hi]
  split <;> omega
theorem SI.now {X : List Ins} {Z : List Int} {c k j : Nat} {aw aw' : Nat → Int} {R R' : List Pr} {Q : List Int} (h : SI X Z c k aw R Q) (hj : j < X.length)
    (hstep : ∀ i, i < X.length → (cntF ((behL X c X.length).take (k + 1)) i : Int) = cntF ((behL X c X.length).take k) i + (if i = j then 1 else 0))
    (ha : ∀ i, i < X.length → aw' i = if i = j then aw i - 1 else aw i) (h1 : aw j = 1) (hn : ¬ Stands (Z ++ [(c : Int)]) j) (hr : ReadyP X (Z ++ [(c : Int)]) j) (hp : R'.Perm (((j : Int), hAt X j) :: R)) : SI X Z c (k + 1) aw' R' Q := by
  refine ⟨fun i hi => ?_, ?_, h.qs.congr fun i hi => ?_⟩
  · rw [ha i hi, hstep i hi, h.aws i hi]
    split <;> omega
  · refine ((h.rs.cons hj (fun q => by omega)).perm hp).congr fun i hi => ?_
    have := ha i hi
    by_cases q : i = j
    · subst q
      rw [if_pos rfl] at this
      exact ⟨fun _ => ⟨hn, by omega, hr⟩, fun _ => .inr rfl⟩
    · rw [if_neg q] at this
      rw [this]
      exact ⟨fun s => s.elim id (fun s => absurd s q), .inl⟩
  · have := ha i hi
    by_cases q : i = j
    · subst q
      exact ⟨fun s => by omega, fun s => absurd hr s.2.2⟩
    · rw [if_neg q] at this
      rw [this]
theorem SI.soon {X : List Ins} {Z : List Int} {c k j : Nat} {aw aw' : Nat → Int} {R : List Pr} {Q : List Int} (h : SI X Z c k aw R Q) (hj : j < X.length)
    (hstep : ∀ i, i < X.length → (cntF ((behL X c X.length).take (k + 1)) i : Int) = cntF ((behL X c X.length).take k) i + (if i = j then 1 else 0))
    (ha : ∀ i, i < X.length → aw' i = if i = j then aw i - 1 else aw i) (h1 : aw j = 1) (hn : ¬ Stands (Z ++ [(c : Int)]) j) (hr : ¬ ReadyP X (Z ++ [(c : Int)]) j) : SI X Z c (k + 1) aw' R (Q ++ [(j : Int)]) := by
  refine ⟨fun i hi => ?_, h.rs.congr fun i hi => ?_, ?_⟩
  · rw [ha i hi, hstep i hi, h.aws i hi]
    split <;> omega
  · have := ha i hi
    by_cases q : i = j
    · subst q
      exact ⟨fun s => by omega, fun s => absurd s.2.2 hr⟩
    · rw [if_neg q] at this
      rw [this]
  · refine (h.qs.snoc hj (fun q => by omega)).congr fun i hi => ?_
    have := ha i hi
    by_cases q : i = j
    · subst q
      rw [if_pos rfl] at this
      exact ⟨fun _ => ⟨hn, by omega, hr⟩, fun _ => .inr rfl⟩
    · rw [if_neg q] at this
      rw [this]
      exact ⟨fun s => s.elim id (fun s => absurd s q), .inl⟩
theorem SI.done {X : List Ins} {Z : List Int} {c : Nat} {aw : Nat → Int} {R : List Pr} {Q : List Int} (h : SI X Z c (behL X c X.length).length aw R Q) (hs : Steps X (Z ++ [(c : Int)])) (hn : ¬ Stands Z c) : LI X (Z ++ [(c : Int)]) aw R Q := by
  have e : ∀ j, j < X.length → aw j = awW X (Z ++ [(c : Int)]) j := fun j hj => by
    have h1 := h.aws j hj
    rw [List.take_length, behL_cnt, if_pos hj] at h1
    have := aw_stand (X := X) (Z := Z) hn j
    omega
  refine ⟨hs, e, h.rs.congr fun j hj => ?_, h.qs.congr fun j hj => ?_⟩
  · have := e j hj
    exact ⟨fun q => q.2.2, fun q => ⟨q.1, by have := ready_aw q; omega, q⟩⟩
  · have := e j hj
    constructor
    · rintro ⟨q1, q2, q3⟩; exact ⟨q1, by omega, q3⟩
    · rintro ⟨q1, q2, q3⟩; exact ⟨q1, by omega, q3⟩
/-- The line at its beginning. -/
theorem LI.start {X : List Ins} {aw : Nat → Int} {R : List Pr} (ha : ∀ j, j < X.length → aw j = (ofL X j).length) (hr : IsR X (fun j => ofL X j = []) R) : LI X [] aw R [] := by
  have e : ∀ j, j < X.length → (ofL X j = [] ↔ ReadyP X [] j) := fun j hj => by
    rw [ready_iff (steps_keep .nil) hj]
    have hn : ∀ i : Nat, ¬ Stands [] i := fun i q => by unfold Stands at q; rw [where_nil] at q; omega
    constructor
    · intro q
      exact ⟨hn j, fun a ha => by rw [q] at ha; simp at ha⟩
    · rintro ⟨_, q⟩
      cases hL : ofL X j with
      | nil => rfl
      | cons x r =>
        obtain ⟨b, e, _, _⟩ := ofL_mem X j x (by rw [hL]; simp)
        exact absurd (q b (by rw [hL, e]; simp)).1 (hn b)
  refine ⟨.nil, fun j hj => by rw [aw_nil]; exact ha j hj, hr.congr e, IsK.nil fun j hj q => ?_⟩
  have h2 := q.2.1
  rw [aw_nil, List.length_eq_zero_iff, e j hj] at h2
  exact q.2.2 h2
end Go.Proofs.Ytpmofaajkhllpaa
