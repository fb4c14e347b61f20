/- Layer 9: a row of replies opened; what the machine tells of a cell's kind. -/
/- A slice that came in has room for what it holds. -/
import Derived.Test.YthjkodjpopcjaaaVwP
namespace Go.Proofs.Ythjkodjpopcjaaa
set_option maxRecDepth 100000
open Go.ChangeShapes Go.WideShapes Go.ChangeAt Go.RowKit Go.Joins Go.Deep

theorem Try.cellsOut9 : Try.prog.cellsOf 55 = 3 := by kernel_rfl
theorem Try.cellsCell9 : Try.prog.cellsOf 41 = 2 := by kernel_rfl
theorem Try.cellsBool9 : Try.prog.cellsOf 4 = 1 := by kernel_rfl
section
variable {H : Type} {enc : TypeId × Value → H} {w : World} {base : Nat} {spare : Nat → Bool} {held : Bool}
theorem open_outs {r : Reach} {b0 : Nat} {v : Value} {d : DataW H} {p : List MemPlace} (hv : Value.okWide Try.prog w r b0 26 v) (h : DataW.Trod enc Try.prog w base spare held 26 v d p) :
    ∃ (A : Option Addr) (m c : Nat) (l : List OutD), v = .slice A m c ∧ l.length = m ∧ m ≤ maxLen ∧ SlAt w A 3 (l.map OutD.cells) ∧ (∀ e ∈ l, (0 ≤ e.val ∧ e.val ≤ 18446744073709551615) ∧ 0 ≤ e.seq ∧ e.seq ≤ 18446744073709551615) :=
  open_sl Try.underlying26 Try.cellsOut9 (by omega) (fun {fuel cs x} ht => by
    obtain ⟨xs, n, _, _, hl, hlen, hf⟩ := DataW.trod_struct Try.underlying55 ht
    have hl3 : cs.length = 3 := hl.trans Try.cellsOut9
    match cs, hl3, xs, hlen with
    | [c0, c1, c2], _, [y0, y1], _ =>
      have h0 := hf 0 _ rfl
      have h1 := hf 1 _ rfl
      obtain ⟨zs, n2, _, _, _, hlen2, hg⟩ := DataW.trod_struct Try.underlying41 h0
      obtain ⟨b, e2, _⟩ := DataW.trod_bool Try.underlying4 h1
      match zs, hlen2 with
      | [z0, z1], _ =>
        obtain ⟨a0, e0, _, w0⟩ := DataW.trod_int Try.underlying22 (hg 0 _ rfl)
        obtain ⟨a1, e1, _, w1⟩ := DataW.trod_int Try.underlying22 (hg 1 _ rfl)
        simp [Try.cellsCell9, Try.cellsU64, Try.cellsBool9] at e0 e1 e2
        exact ⟨⟨a0, a1, b⟩, by rw [e0, e1, e2]; rfl, rfl, bounds_u64 w0, bounds_u64 w1⟩) hv h
end
set_option maxHeartbeats 2000000 in
/-- A cell that transactions write, and that is no block's: the two readings agree. -/
theorem kind_mid {c : CfgD} (h : c.Bd) (p : Int) : (decide (7 ≤ (c.what p).1) && decide ((c.what p).1 ≤ 15)) = !decide (p < c.ans ∨ c.word ≤ p) := by
  obtain ⟨t1, t8, b1, b64, w0, w64, l0, l1, w3, w5, s0, s1⟩ := h
  have o0 : 1 ≤ c.ans := by unfold CfgD.ans; omega
  have o1 : c.ans ≤ c.root := by unfold CfgD.root; omega
  have o2 : c.root ≤ c.life := by unfold CfgD.life; omega
  have o3 : c.life ≤ c.top := by unfold CfgD.top; omega
  have o4 : c.top ≤ c.stack := by unfold CfgD.stack; omega
  have o5 : c.stack ≤ c.limp := by unfold CfgD.limp; omega
  have o6 : c.limp ≤ c.limbo := by unfold CfgD.limbo; omega
  have o7 : c.limbo ≤ c.word := by unfold CfgD.word; omega
  clear t1 t8 b64 w0 w64 l0 l1 w3 w5 s0 s1
  rw [Bool.eq_iff_iff]
  simp only [Bool.and_eq_true, decide_eq_true_eq, Bool.not_eq_true', decide_eq_false_iff_not]
  unfold CfgD.what
  dsimp only
  have o8 : c.word ≤ c.size := by unfold CfgD.size; omega
  clear b1
  generalize c.ans = a at *
  generalize c.root = a1 at *
  generalize c.life = a2 at *
  generalize c.top = a3 at *
  generalize c.stack = a4 at *
  generalize c.limp = a5 at *
  generalize c.limbo = a6 at *
  generalize c.word = a7 at *
  generalize c.size = a8 at *
  generalize c.str = z at *
  repeat' split
  all_goals (dsimp only; omega)
end Go.Proofs.Ythjkodjpopcjaaa

namespace Go.Proofs.Ythjkodjpopcjaaa
set_option maxRecDepth 100000
open Go.ChangeShapes Go.WideShapes Go.ChangeAt Go.RowKit Go.Joins Go.Deep
section
variable {H : Type} {enc : TypeId × Value → H} {w : World} {base : Nat} {spare : Nat → Bool} {held : Bool}
theorem open_cap {T E : Nat} (hu : Try.prog.underlying T = some (.slice E)) {A : Option Addr} {m c : Nat} {d : DataW H} {p : List MemPlace}
    (h : DataW.Trod enc Try.prog w base spare held T (.slice A m c) d p) : m ≤ c ∧ c ≤ maxLen := by
  obtain ⟨fuel, hf⟩ := h
  rcases open_slice hu hf with ⟨hcs, _⟩ | ⟨a, len, cap, m', n2, D, Pl, hcs, hb, hl, hm, hmm, hx, hi⟩
  · simp [Value.cells] at hcs
    obtain ⟨rfl, rfl, rfl⟩ := hcs
    simp
  · simp [Value.cells] at hcs
    obtain ⟨rfl, rfl, rfl⟩ := hcs
    exact ⟨hl, hm⟩
end
end Go.Proofs.Ythjkodjpopcjaaa
