/- Entries compared: the operation alone. -/
import Derived.Test.YtebffkoonbkhnaaBase
namespace Go.Proofs.Ytebffkoonbkhnaa
open Go.RowKit
theorem run_re_neq (W : World) (a v : Int) : (binOp .neq 129 (.agg #[.int .i64 a, .int .u64 v]) (.agg #[.int .i64 a, .int .u64 v])).run Try.prog W = .ok (.bool false) W := by
  simp [go_sem]
end Go.Proofs.Ytebffkoonbkhnaa
