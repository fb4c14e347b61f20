/- Layer 1 (cell): the laws' arguments opened: cells, steps, slices of steps; the end of a law's row. -/
import Derived.Test.YtkinnhdagdkhcaaCellJ
import Derived.ProofKit
import Derived.Lib.SmallJoins
import Derived.Deep.Slices
import Derived.Carry
namespace Go.Proofs.Ytkinnhdagdkhcaa
open Go.ChangeShapes Go.WideShapes Go.ChangeAt Go.RowKit Go.Joins Go.Deep

theorem Try.own : ownKnob Try.prog.godebug = none := by kernel_rfl
theorem Try.laidOut : laidOutB Try.prog = true := by kernel_rfl
theorem Try.cells33 : Try.prog.cellsOf 33 = 1 := by kernel_rfl
theorem Try.cells3 : Try.prog.cellsOf 3 = 1 := by kernel_rfl
theorem Try.cells35 : Try.prog.cellsOf 35 = 2 := by kernel_rfl
theorem Try.cells37 : Try.prog.cellsOf 37 = 6 := by kernel_rfl
theorem Try.cells39 : Try.prog.cellsOf 39 = 7 := by kernel_rfl

/-- A thread's step, as the laws hand it in. -/
structure StepD where
  who : Int
  k : Int
  i : Int
  o : Int × Int
  n : Int × Int
def StepD.L (s : StepD) : List Value := [.int .i64 s.who, .int .i64 s.k, .int .i64 s.i, .int .u64 s.o.1, .int .u64 s.o.2, .int .u64 s.n.1, .int .u64 s.n.2]
def stepV (s : StepD) : Value := .agg #[.int .i64 s.who, .int .i64 s.k, .int .i64 s.i, .int .u64 s.o.1, .int .u64 s.o.2, .int .u64 s.n.1, .int .u64 s.n.2]

section
variable {H : Type} {enc : TypeId × Value → H} {w : World} {base : Nat} {spare : Nat → Bool} {held : Bool}
theorem open_cellL {fuel : Nat} {cs : List Value} {x : DataW H × List MemPlace} (h : DataW.trod enc Try.prog w base spare held fuel 35 cs = some x) : ∃ c : Int × Int, cs = [.int .u64 c.1, .int .u64 c.2] := by
  obtain ⟨y0, y1, n, _, hl, h0, h1⟩ := trod_struct2 Try.underlying35 h
  have hl2 : cs.length = 2 := hl.trans Try.cells35
  match cs, hl2 with
  | [c0, c1], _ =>
    obtain ⟨a, e0, _⟩ := DataW.trod_int Try.underlying33 h0
    obtain ⟨b, e1, _⟩ := DataW.trod_int Try.underlying33 h1
    simp [Try.cells33] at e0 e1
    exact ⟨(a, b), by rw [e0, e1]⟩

theorem open_opL {fuel : Nat} {cs : List Value} {x : DataW H × List MemPlace} (h : DataW.trod enc Try.prog w base spare held fuel 37 cs = some x) :
    ∃ (k i : Int) (o n : Int × Int), cs = [.int .i64 k, .int .i64 i, .int .u64 o.1, .int .u64 o.2, .int .u64 n.1, .int .u64 n.2] := by
  obtain ⟨xs, n, _, _, hl, hlen, hf⟩ := DataW.trod_struct Try.underlying37 h
  have hl2 : cs.length = 6 := hl.trans Try.cells37
  match cs, hl2, xs, hlen with
  | [c0, c1, c2, c3, c4, c5], _, [y0, y1, y2, y3], _ =>
    obtain ⟨k, e0, _⟩ := DataW.trod_int Try.underlying3 (hf 0 _ rfl)
    obtain ⟨i, e1, _⟩ := DataW.trod_int Try.underlying3 (hf 1 _ rfl)
    obtain ⟨o, e2⟩ := open_cellL (hf 2 _ rfl)
    obtain ⟨nn, e3⟩ := open_cellL (hf 3 _ rfl)
    simp [Try.cells3, Try.cells35] at e0 e1 e2 e3
    exact ⟨k, i, o, nn, by rw [e0, e1, e2.1, e2.2, e3.1, e3.2]⟩

theorem open_stepL {fuel : Nat} {cs : List Value} {x : DataW H × List MemPlace} (h : DataW.trod enc Try.prog w base spare held fuel 39 cs = some x) : ∃ s : StepD, cs = s.L := by
  obtain ⟨y0, y1, n, _, hl, h0, h1⟩ := trod_struct2 Try.underlying39 h
  have hl2 : cs.length = 7 := hl.trans Try.cells39
  match cs, hl2 with
  | [c0, c1, c2, c3, c4, c5, c6], _ =>
    obtain ⟨who, e0, _⟩ := DataW.trod_int Try.underlying3 h0
    obtain ⟨k, i, o, nn, e1⟩ := open_opL h1
    simp [Try.cells3, Try.cells37] at e0 e1
    obtain ⟨e1, e2, e3, e4, e5, e6⟩ := e1
    exact ⟨⟨who, k, i, o, nn⟩, by simp [StepD.L, e0, e1, e2, e3, e4, e5, e6]⟩

theorem exists_list {α : Type} (P : Nat → α → Prop) : ∀ n : Nat, (∀ i, i < n → ∃ a, P i a) → ∃ l : List α, l.length = n ∧ ∀ i a, l[i]? = some a → P i a
  | 0, _ => ⟨[], rfl, by simp⟩
  | n + 1, h => by
    obtain ⟨l, hl, hp⟩ := exists_list P n (fun i hi => h i (by omega))
    obtain ⟨a, ha⟩ := h n (by omega)
    refine ⟨l ++ [a], by simp [hl], fun i b hb => ?_⟩
    rcases Nat.lt_or_ge i l.length with hi | hi
    · rw [List.getElem?_append_left hi] at hb
      exact hp i b hb
    · rw [List.getElem?_append_right hi] at hb
      obtain ⟨hj, hb⟩ := List.getElem?_eq_some_iff.1 hb
      have : i = n := by simp at hj; omega
      subst this
      simp at hb
      exact hb ▸ ha

/-- A slice of steps reads as a list. -/
def StepsAt (w : World) (A : Option Addr) (l : List StepD) : Prop :=
  0 < l.length → ∃ b off, A = some ⟨b, off, none⟩ ∧ b < w.heap.size ∧ ∀ (k : Nat) (s : StepD), l[k]? = some s → ∀ j u, s.L[j]? = some u → w.cell? ⟨b, off + k * 7 + j, none⟩ = some u

theorem open_steps {r : Reach} {b0 : Nat} {v : Value} {d : DataW H} {p : List MemPlace} (hv : Value.okWide Try.prog w r b0 22 v)
    (h : DataW.Trod enc Try.prog w base spare held 22 v d p) : ∃ (A : Option Addr) (n c : Nat) (l : List StepD), v = .slice A n c ∧ l.length = n ∧ n ≤ maxLen ∧ StepsAt w A l := by
  obtain ⟨A, n, c, rfl⟩ := okWide_slice Try.underlying22 hv
  obtain ⟨fuel, hf⟩ := h
  rcases open_slice Try.underlying22 hf with ⟨hcs, _⟩ | ⟨a, len, cap, m, n', D, Pl, hcs, hb, hl, hm, hmm, hx, hi⟩
  · simp [Value.cells] at hcs
    obtain ⟨rfl, rfl, rfl⟩ := hcs
    exact ⟨none, 0, 0, [], rfl, rfl, by simp [maxLen], by simp [StepsAt]⟩
  · simp [Value.cells] at hcs
    obtain ⟨rfl, rfl, rfl⟩ := hcs
    have hlm : n ≤ m := by rw [hmm]; split <;> omega
    have key : ∀ i, i < n → ∃ s : StepD, ∀ j u, s.L[j]? = some u → w.cell? ((a.add (i * 7)).add j) = some u := fun i hin => by
      obtain ⟨cs', hc, ht⟩ := hi i (by omega)
      rw [Try.cells39] at hc
      obtain ⟨s, rfl⟩ := open_stepL ht
      obtain ⟨_, _, hat⟩ := World.cells?_some hc
      refine ⟨s, fun j u hj => ?_⟩
      have hj7 : j < 7 := by
        have := (List.getElem?_eq_some_iff.1 hj).1
        simpa [StepD.L] using this
      rw [hat j hj7, hj]
    obtain ⟨l, hll, hp⟩ := exists_list _ n key
    refine ⟨some a, n, c, l, rfl, hll, by omega, fun h0 => ?_⟩
    have h00 := hp 0 l[0] (List.getElem?_eq_getElem h0) 0 _ rfl
    obtain ⟨b, off, spot⟩ := a
    have hspot : spot = none := by simpa [Addr.add] using World.cell?_spot h00
    subst hspot
    refine ⟨b, off, rfl, ?_, fun k s hk j u hj => ?_⟩
    · have := World.block_lt_of_cell? w _ h00
      simpa [Addr.add] using this
    · have := hp k s hk j u hj
      rwa [add_plain, add_plain] at this

theorem open_cell {r : Reach} {b0 : Nat} {v : Value} {d : DataW H} {p : List MemPlace} (hv : Value.okWide Try.prog w r b0 35 v) (h : DataW.Trod enc Try.prog w base spare held 35 v d p) :
    ∃ c : Int × Int, v = cellV c := by
  obtain ⟨cs, rfl, _⟩ := okWide_struct Try.underlying35 hv
  obtain ⟨fuel, hf⟩ := h
  obtain ⟨c, hc⟩ := open_cellL hf
  exact ⟨c, by rw [show cs = #[.int .u64 c.1, .int .u64 c.2] from Array.ext' hc]; rfl⟩
theorem open_step {r : Reach} {b0 : Nat} {v : Value} {d : DataW H} {p : List MemPlace} (hv : Value.okWide Try.prog w r b0 39 v) (h : DataW.Trod enc Try.prog w base spare held 39 v d p) :
    ∃ s : StepD, v = stepV s := by
  obtain ⟨cs, rfl, _⟩ := okWide_struct Try.underlying39 hv
  obtain ⟨fuel, hf⟩ := h
  obtain ⟨s, hc⟩ := open_stepL hf
  exact ⟨s, by rw [show cs = s.L.toArray from Array.ext' hc]; rfl⟩
end

theorem trod_places {H : Type} {enc : TypeId × Value → H} {W : World} {t : TypeId} {v : Value} {d : DataW H} {p : List MemPlace} (h : DataW.Trod enc Try.prog W 0 (fun _ => true) true t v d p) : ∀ x ∈ p, x.block < W.heap.size := by
  obtain ⟨m, hm⟩ := h
  exact DataW.trod_lt m _ _ _ hm

end Go.Proofs.Ytkinnhdagdkhcaa
