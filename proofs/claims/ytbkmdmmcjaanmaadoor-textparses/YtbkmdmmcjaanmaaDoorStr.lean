/-
  The library's contracts in one form: strings as lists of bytes; the package-level variables that the library reads, as they stay.
-/
import Derived.Test.YtbkmdmmcjaanmaaDoorShelf
import Derived.Test.YtbkmdmmcjaanmaaDoorLater
import Derived.Test.YtbkmdmmcjaanmaaDoorTxt
import Derived.Lib.AppendIntMem
import Derived.Lib.SmallJoins
import Derived.Lib.CutLaws
import Derived.Lib.IndexBytes
import Derived.RegionTactic
namespace Go.Proofs.YtbkmdmmcjaanmaaDoor
set_option maxRecDepth 20000
open Go.ChangeShapes Go.WideShapes Go.ChangeAt Go.RowKit Go.Lib

/-- A string of these bytes. -/
def bs (l : List UInt8) : ByteArray := ⟨l.toArray⟩
theorem bs_size (l : List UInt8) : (bs l).size = l.length := by unfold bs; simp [ByteArray.size]
theorem bs_list (l : List UInt8) : (bs l).data.toList = l := by unfold bs; simp
theorem bs_toList (l : List UInt8) : (bs l).toList = l := by rw [ByteArray.toList_eq, bs_list]
theorem of_bs (s : ByteArray) : s = bs s.data.toList := by unfold bs; rfl
theorem bs_inj {a b : List UInt8} (h : bs a = bs b) : a = b := by rw [← bs_list a, h, bs_list]
theorem bs_append (a b : List UInt8) : bs a ++ bs b = bs (a ++ b) := by unfold bs; exact ByteArray.mk_append_mk a b
theorem bs_ext {s : ByteArray} {l : List UInt8} (h : s.data.toList = l) : s = bs l := by rw [of_bs s, h]
theorem bs_eq (a b : List UInt8) : ((bs a).toList == (bs b).toList) = decide (a = b) := by
  rw [bs_toList, bs_toList, Bool.eq_iff_iff]; simp

/-- What the library's package-level variables hold, as far as it is read. -/
structure Gl (w : World) : Prop where
  tab : Lib.TabIs Tryd.prog w "internal/strconv.uint64pow10" .u64 Lib.pow10Tab
  syn : ∃ tp p, w.var? Tryd.prog "strconv.ErrSyntax" = some #[.iface tp p]
  ran : ∃ tp p, w.var? Tryd.prog "strconv.ErrRange" = some #[.iface tp p]
theorem gTab : Tryd.prog.globalNamed "internal/strconv.uint64pow10" = some 1 := by kernel_rfl
theorem gSyn : Tryd.prog.globalNamed "strconv.ErrSyntax" = some 2 := by kernel_rfl
theorem gRan : Tryd.prog.globalNamed "strconv.ErrRange" = some 3 := by kernel_rfl
theorem Gl.stay {w w' : World} (h : Gl w) (b : Bel w w') : Gl w' :=
  ⟨Joins.tab_stays gTab h.tab b.out (Nat.le_refl _), h.syn.imp fun _ h => h.imp fun _ h => Joins.var_stays gSyn h b.out (Nat.le_refl _), h.ran.imp fun _ h => h.imp fun _ h => Joins.var_stays gRan h b.out (Nat.le_refl _)⟩
theorem Gl.later {w : World} (h : Gl w) (u : Later w) : Gl u.at_ := h.stay u.is_
theorem Gl.alloc {w : World} (h : Gl w) (o : Obj) : Gl (w.alloc o) := h.stay ((Bel.refl w).alloc o)

theorem itoa_any (n : Int) (w : World) (g : Gl w) (h0 : -9223372036854775808 ≤ n) (h1 : n ≤ 9223372036854775807) :
    Calls Tryd.prog 19 #[.int .i64 n] w fun e w' => e = .returned (.string (bs (itoa n))) ∧ Bel w w' :=
  (Tryd.strconv_Itoa n h0 h1 w g.tab).mono fun _ _ ⟨he, _, _, hw⟩ => ⟨he, by rw [hw]; exact Lib.below_grow _ _ (Nat.le_refl _) _ _⟩
theorem trim_any (s p : List UInt8) (w : World) :
    Calls Tryd.prog 40 #[.string (bs s), .string (bs p)] w fun e w' => e = .returned (.string (bs (trimPrefix s p))) ∧ Bel w w' :=
  (Tryd.strings_TrimPrefix (bs s) (bs p) w).mono fun _ _ ⟨he, hw⟩ => ⟨by rw [he, bs_list, bs_list]; rfl, by rw [hw]; exact Bel.refl _⟩
/-- strconv.Atoi: the number that is beside the error, if there is one. -/
theorem atoi_any (l : List UInt8) (w : World) (g : Gl w) (hl : l.length ≤ 281474976710656) :
    Calls Tryd.prog 39 #[.string (bs l)] w fun e w' => ∃ er, e = .returned (.tuple #[.int .i64 (numL l), er]) ∧ Bel w w' := by
  have hs : (bs l).size ≤ 281474976710656 := by rw [bs_size]; exact hl
  cases h : atoiAll l with
  | ok v =>
    rw [show numL l = v by unfold numL; rw [h]]
    refine (Tryd.strconv_Atoi_ok (bs l) (by omega) v (by rw [bs_list]; exact h) w).mono fun _ _ ⟨he, hw⟩ => ⟨_, he, ?_⟩
    rcases hw with rfl | ⟨t, rfl⟩
    · exact Bel.refl _
    · exact Lib.bytesWorld_below _ _ _
  | «syntax» =>
    obtain ⟨tp, p, hv⟩ := g.syn
    rw [show numL l = 0 by unfold numL; rw [h]]
    exact (Tryd.strconv_Atoi_syntax_var (bs l) hs (by rw [bs_list]; exact h) tp p w hv).mono fun _ _ ⟨_, he, _, _, hw⟩ => ⟨_, he, hw⟩
  | range =>
    obtain ⟨tp, p, hv⟩ := g.ran
    rw [show numL l = atoiSat (bs l).data.toList by unfold numL; rw [h, bs_list]]
    exact (Tryd.strconv_Atoi_range_var (bs l) hs (by rw [bs_list]; exact h) tp p w hv).mono fun _ _ ⟨_, he, _, _, hw⟩ => ⟨_, he, hw⟩

theorem index_byte (l : List UInt8) (c : UInt8) : indexByte l c = index l [c] := (index_one l c).symm
set_option maxHeartbeats 1000000 in
theorem cutl_any (s : ByteArray) (c : UInt8) (w : World) (hs : s.size ≤ 281474976710656) :
    Calls Tryd.prog 33 #[.string s, .string ⟨#[c]⟩] w fun e w' => e = .returned (.tuple #[.string ⟨(cut s.data.toList [c]).1.toArray⟩, .string ⟨(cut s.data.toList [c]).2.1.toArray⟩, .bool (cut s.data.toList [c]).2.2]) ∧ Bel w w' := by
  have hone : (⟨#[c]⟩ : ByteArray).size = 1 := rfl
  rcases Lib.indexB_cases s ⟨#[c]⟩ with hix | ⟨i, hix, hroom⟩
  · obtain ⟨e1, e2, e3⟩ := Lib.cutB_miss s ⟨#[c]⟩ hix
    have hix' : indexByte s.data.toList c = -1 := by rw [index_byte]; exact hix
    rw [show ([c] : List UInt8) = (⟨#[c]⟩ : ByteArray).data.toList from rfl, e1, e2, e3]
    go_enter Tryd.func33, Tryd.ntmps33
    go_wp2_with (go_at_call 38; refine (Tryd.stringslite_Index_one _ _ _).mono ?_; rintro e w' ⟨rfl, rfl⟩; rw [hix'])
    go_ret3
    exact ⟨rfl, Bel.refl _⟩
  · obtain ⟨e1, e2, e3⟩ := Lib.cutB_hit s ⟨#[c]⟩ i hix
    have hix' : indexByte s.data.toList c = i := by rw [index_byte]; exact hix
    rw [show ([c] : List UInt8) = (⟨#[c]⟩ : ByteArray).data.toList from rfl, e1, e2, e3]
    rw [hone] at hroom
    have c1 : (0 : Int) ≤ ↑i := by omega
    have c2 : (↑i : Int) ≤ ↑s.size := by omega
    have c3 : (0 : Int) ≤ ↑i + 1 := by omega
    have c4 : (↑i + 1 : Int) ≤ ↑s.size := by omega
    go_enter Tryd.func33, Tryd.ntmps33
    go_wp2_with (go_at_call 38; refine (Tryd.stringslite_Index_one _ _ _).mono ?_; rintro e w' ⟨rfl, rfl⟩; rw [hix'])
    go_region
    go_wp2
    go_ret3
    exact ⟨rfl, (Bel.refl _).drew⟩
set_option maxHeartbeats 1000000 in
theorem cut_any (l : List UInt8) (c : UInt8) (w : World) (hl : l.length ≤ 281474976710656) :
    Calls Tryd.prog 22 #[.string (bs l), .string ⟨#[c]⟩] w fun e w' => e = .returned (.tuple #[.string (bs (cut l [c]).1), .string (bs (cut l [c]).2.1), .bool (cut l [c]).2.2]) ∧ Bel w w' := by
  go_enter Tryd.func22, Tryd.ntmps22
  go_wp2_with (go_at_call 33; refine (cutl_any _ _ _ (by rw [bs_size]; exact hl)).mono ?_; rintro e w' ⟨rfl, hb⟩; rw [bs_list])
  go_ret3
  exact ⟨rfl, hb⟩
end Go.Proofs.YtbkmdmmcjaanmaaDoor
