/- Layer 2 (glyph): a token without its place. -/
import Derived.Test.YtonihjijienigaaDoorGlD
namespace Go.Proofs.YtonihjijienigaaDoor
def Tok.core (t : Tok) : Int × ByteArray × Nat := (t.kind, t.text, t.num)
end Go.Proofs.YtonihjijienigaaDoor
