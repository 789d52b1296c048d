/-
  What the reference tells of an instruction.
-/
import Derived.Test.YtfhepjjebadpdaaIx
import Derived.Test.YtfhepjjebadpdaaRef3
namespace Go.Proofs.Ytfhepjjebadpdaa
set_option maxRecDepth 20000
set_option linter.unusedVariables false
open Go.ChangeShapes Go.WideShapes Go.ChangeAt Go.RowKit

theorem ret_rds {x : Ins} {n : Int} (w : World) : Calls Try.prog 16 #[.agg #[.int .i64 x.o, .int .i64 x.a, .int .i64 x.b, .int .i64 x.c, .int .i64 x.i], .int .i64 n] w fun e w' => e = .returned (.bool (x.rds n)) ∧ Bel w w' := refReads_any x.o x.a x.b x.c x.i n w
theorem ret_wr {x : Ins} (w : World) : Calls Try.prog 17 #[.agg #[.int .i64 x.o, .int .i64 x.a, .int .i64 x.b, .int .i64 x.c, .int .i64 x.i]] w fun e w' => e = .returned (.int .i64 x.wr) ∧ Bel w w' := refWrites_any x.o x.a x.b x.c x.i w
theorem ret_late {x : Ins} (w : World) : Calls Try.prog 14 #[.agg #[.int .i64 x.o, .int .i64 x.a, .int .i64 x.b, .int .i64 x.c, .int .i64 x.i]] w fun e w' => e = .returned (.bool x.late) ∧ Bel w w' := refLate_any x.o x.a x.b x.c x.i w
theorem ret_goes {x : Ins} (w : World) : Calls Try.prog 13 #[.agg #[.int .i64 x.o, .int .i64 x.a, .int .i64 x.b, .int .i64 x.c, .int .i64 x.i]] w fun e w' => e = .returned (.bool x.goes) ∧ Bel w w' := refGoes_any x.o x.a x.b x.c x.i w
theorem ret_right {x : Ins} (w : World) : Calls Try.prog 15 #[.agg #[.int .i64 x.o, .int .i64 x.a, .int .i64 x.b, .int .i64 x.c, .int .i64 x.i]] w fun e w' => e = .returned (.bool x.right) ∧ Bel w w' := refRight_any x.o x.a x.b x.c x.i w
end Go.Proofs.Ytfhepjjebadpdaa
