/- Layer 2 (glyph): two strings, one behind the other; a byte as a string. -/
import Derived.Test.YtonihjijienigaaDoorGlNum
namespace Go.Proofs.YtonihjijienigaaDoor
open Go.RowKit Go.Shelf

theorem add_run (a b S : ByteArray) (h : a ++ b = S) (hz : a.size + b.size ≤ 9223372036854775807) (W : World) : (Op.stringOp .add a b).run Tryd.prog W = .ok (.string S) W := by
  subst h
  unfold Op.stringOp
  have : ¬ (((a.size + b.size : Nat) : Int) > IntKind.i64.max) := by
    have : IntKind.i64.max = 9223372036854775807 := rfl
    rw [this]; omega
  simp only [this, if_false]
  rfl
end Go.Proofs.YtonihjijienigaaDoor
