/- Layer 3 (instr): two equal instructions compared. (A text of its own: behind RegionHeld3's imports this simp runs away.) -/
import Derived.Test.YtkinnhdagdkhcaaDoorInsQ
namespace Go.Proofs.YtkinnhdagdkhcaaDoor
open Go.RowKit

theorem run_ins_neq (W : World) (a0 a1 a2 a3 a4 : Int) : (binOp .neq 47 (.agg #[.int .i64 a0, .int .i64 a1, .int .i64 a2, .int .i64 a3, .int .u64 a4]) (.agg #[.int .i64 a0, .int .i64 a1, .int .i64 a2, .int .i64 a3, .int .u64 a4])).run Tryd.prog W = .ok (.bool false) W := by
  simp [go_sem]

end Go.Proofs.YtkinnhdagdkhcaaDoor
