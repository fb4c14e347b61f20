/- Law 10: rows of acts, and of numbers, opened. -/
import Derived.Test.YthjkodjpopcjaaaVwCp
namespace Go.Proofs.Ythjkodjpopcjaaa
set_option maxRecDepth 100000
open Go.ChangeShapes Go.WideShapes Go.ChangeAt Go.RowKit Go.Joins Go.Deep
theorem Try.cellsAct : Try.prog.cellsOf 86 = 2 := by kernel_rfl
section
variable {H : Type} {enc : TypeId × Value → H} {w : World} {base : Nat} {spare : Nat → Bool} {held : Bool}
theorem open_acts {r : Reach} {b0 : Nat} {v : Value} {d : DataW H} {p : List MemPlace} (hv : Value.okWide Try.prog w r b0 70 v) (h : DataW.Trod enc Try.prog w base spare held 70 v d p) :
    ∃ (A : Option Addr) (m c : Nat) (l : List (Int × Int)), v = .slice A m c ∧ l.length = m ∧ m ≤ maxLen ∧ SlAt w A 2 (l.map fun x => [.int .i64 x.1, .int .i64 x.2]) ∧ (∀ e ∈ l, I64 e.1 ∧ I64 e.2) :=
  open_sl Try.underlying70 Try.cellsAct (by omega) (fun {fuel cs x} ht => by
    obtain ⟨y0, y1, n, _, hl, h0, h1⟩ := trod_struct2 Try.underlying86 ht
    have hl2 : cs.length = 2 := hl.trans Try.cellsAct
    match cs, hl2 with
    | [c0, c1], _ =>
      obtain ⟨a, e0, _, w0⟩ := DataW.trod_int Try.underlying3 h0
      obtain ⟨b, e1, _, w1⟩ := DataW.trod_int Try.underlying3 h1
      simp [Try.cellsInt] at e0 e1
      exact ⟨(a, b), by rw [e0, e1], rfl, bounds_i64 w0, bounds_i64 w1⟩) hv h
theorem open_ints {r : Reach} {b0 : Nat} {v : Value} {d : DataW H} {p : List MemPlace} (hv : Value.okWide Try.prog w r b0 101 v) (h : DataW.Trod enc Try.prog w base spare held 101 v d p) :
    ∃ (A : Option Addr) (m c : Nat) (l : List Int), v = .slice A m c ∧ l.length = m ∧ m ≤ maxLen ∧ SlAt w A 1 (l.map fun x => [.int .i64 x]) ∧ (∀ e ∈ l, I64 e) :=
  open_sl Try.underlying101 Try.cellsInt (by omega) (fun ht => by
    obtain ⟨a, e0, _, w0⟩ := DataW.trod_int Try.underlying3 ht
    exact ⟨a, e0, by rw [e0]; rfl, bounds_i64 w0⟩) hv h
end
end Go.Proofs.Ythjkodjpopcjaaa
