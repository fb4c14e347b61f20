/- Layer 2 (glyph): two tokens of the document compared. -/
import Derived.Test.YtonihjijienigaaDoorGlG
namespace Go.Proofs.YtonihjijienigaaDoor
open Go.RowKit
theorem run_ref_neq (W : World) (a0 a3 a4 : Int) (a1 : ByteArray) (a2 : Nat) : (binOp .neq 44 (.agg #[.int .i64 a0, .string a1, .int .u64 a2, .int .i64 a3, .int .i64 a4]) (.agg #[.int .i64 a0, .string a1, .int .u64 a2, .int .i64 a3, .int .i64 a4])).run Tryd.prog W = .ok (.bool false) W := by
  simp [go_sem]
end Go.Proofs.YtonihjijienigaaDoor
