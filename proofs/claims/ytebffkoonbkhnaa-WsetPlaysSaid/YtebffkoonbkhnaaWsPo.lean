/- WsetPlays: the law's steps opened. -/
import Derived.Test.YtebffkoonbkhnaaVwG
namespace Go.Proofs.Ytebffkoonbkhnaa
set_option maxRecDepth 100000
open Go.ChangeShapes Go.WideShapes Go.ChangeAt Go.RowKit Go.Joins Go.Deep

/-- A step of the law, as data. -/
structure OpB where
  back : Bool
  mark : Int
  pos : Int
  val : Int
def opbL (o : OpB) : List Value := [.bool o.back, .int .i64 o.mark, .int .i64 o.pos, .int .u64 o.val]
theorem Try.cellsOpB : Try.prog.cellsOf 118 = 4 := by kernel_rfl
theorem Try.cellsBoolB : Try.prog.cellsOf 4 = 1 := by kernel_rfl
section
variable {H : Type} {enc : TypeId × Value → H} {w : World} {base : Nat} {spare : Nat → Bool} {held : Bool}
theorem open_ops {r : Reach} {b0 : Nat} {v : Value} {d : DataW H} {p : List MemPlace} (hv : Value.okWide Try.prog w r b0 116 v) (h : DataW.Trod enc Try.prog w base spare held 116 v d p) :
    ∃ (A : Option Addr) (m c : Nat) (l : List OpB), v = .slice A m c ∧ l.length = m ∧ m ≤ maxLen ∧ SlAt w A 4 (l.map opbL) ∧ (∀ e ∈ l, I64 e.mark ∧ I64 e.pos ∧ 0 ≤ e.val ∧ e.val ≤ 18446744073709551615) :=
  open_sl Try.underlying116 Try.cellsOpB (by omega) (fun {fuel cs x} ht => by
    obtain ⟨xs, n, _, _, hl, hlen, hf⟩ := DataW.trod_struct Try.underlying118 ht
    have hl4 : cs.length = 4 := hl.trans Try.cellsOpB
    match cs, hl4, xs, hlen with
    | [c0, c1, c2, c3], _, [y0, y1, y2, y3], _ =>
      obtain ⟨b, e0, _⟩ := DataW.trod_bool Try.underlying4 (hf 0 _ rfl)
      obtain ⟨a1, e1, _, w1⟩ := DataW.trod_int Try.underlying3 (hf 1 _ rfl)
      obtain ⟨a2, e2, _, w2⟩ := DataW.trod_int Try.underlying3 (hf 2 _ rfl)
      obtain ⟨a3, e3, _, w3⟩ := DataW.trod_int Try.underlying22 (hf 3 _ rfl)
      simp [Try.cellsInt, Try.cellsU64, Try.cellsBoolB] at e0 e1 e2 e3
      exact ⟨⟨b, a1, a2, a3⟩, by rw [e0, e1, e2, e3]; rfl, rfl, bounds_i64 w1, bounds_i64 w2, bounds_u64 w3⟩) hv h
end
end Go.Proofs.Ytebffkoonbkhnaa
