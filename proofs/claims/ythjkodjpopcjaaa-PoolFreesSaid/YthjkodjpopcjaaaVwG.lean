/- Layer 8: the laws' arguments opened. -/
/- Layer 9: the laws' arguments opened: rows of readings, of numbers, of answers. -/
import Derived.Test.YthjkodjpopcjaaaLyG
import Derived.Test.YthjkodjpopcjaaaWsX
import Derived.Deep.Strs
namespace Go.Proofs.Ythjkodjpopcjaaa
set_option maxRecDepth 100000
open Go.ChangeShapes Go.WideShapes Go.ChangeAt Go.RowKit Go.Joins Go.Deep

theorem Try.cellsEn : Try.prog.cellsOf 150 = 2 := by kernel_rfl
/-- A slice of entries reads as a list. -/
def EntsAt (w : World) (A : Option Addr) (l : List (Int × Int)) : Prop :=
  0 < l.length → ∃ b off, A = some ⟨b, off, none⟩ ∧ b < w.heap.size ∧ ∀ (k : Nat) (s : Int × Int), l[k]? = some s → w.cell? ⟨b, off + k * 2, none⟩ = some (.int .i64 s.1) ∧ w.cell? ⟨b, off + k * 2 + 1, none⟩ = some (.int .u64 s.2)
theorem EntsAt.kept {w w' : World} {A : Option Addr} {l : List (Int × Int)} (h : EntsAt w A l) (k : Kept (fun _ => False) w w') : EntsAt w' A l := fun h0 => by
  obtain ⟨b, off, e, hb, hc⟩ := h h0
  exact ⟨b, off, e, Nat.lt_of_lt_of_le hb k.size, fun i s hi => ⟨k.cell_some (fun h => h) (hc i s hi).1, k.cell_some (fun h => h) (hc i s hi).2⟩⟩
theorem exists_list {α : Type} (P : Nat → α → Prop) : ∀ n : Nat, (∀ i, i < n → ∃ a, P i a) → ∃ l : List α, l.length = n ∧ ∀ i a, l[i]? = some a → P i a
  | 0, _ => ⟨[], rfl, by simp⟩
  | n + 1, h => by
    obtain ⟨l, hl, hp⟩ := exists_list P n (fun i hi => h i (by omega))
    obtain ⟨a, ha⟩ := h n (by omega)
    refine ⟨l ++ [a], by simp [hl], fun i b hb => ?_⟩
    rcases Nat.lt_or_ge i l.length with hi | hi
    · rw [List.getElem?_append_left hi] at hb
      exact hp i b hb
    · rw [List.getElem?_append_right hi] at hb
      obtain ⟨hj, hb⟩ := List.getElem?_eq_some_iff.1 hb
      have : i = n := by simp at hj; omega
      subst this
      simp at hb
      exact hb ▸ ha
section
variable {H : Type} {enc : TypeId × Value → H} {w : World} {base : Nat} {spare : Nat → Bool} {held : Bool}
theorem open_u64 {r : Reach} {b0 : Nat} {v : Value} {d : DataW H} {p : List MemPlace} (hv : Value.okWide Try.prog w r b0 22 v) (h : DataW.Trod enc Try.prog w base spare held 22 v d p) : ∃ x : Int, v = .int .u64 x ∧ 0 ≤ x ∧ x ≤ 18446744073709551615 := by
  obtain ⟨x, rfl, _, _, hw⟩ := open_int Try.underlying22 hv h
  exact ⟨x, rfl, bounds_u64 hw⟩
theorem open_entL {fuel : Nat} {cs : List Value} {x : DataW H × List MemPlace} (h : DataW.trod enc Try.prog w base spare held fuel 150 cs = some x) : ∃ c : Int × Int, cs = [.int .i64 c.1, .int .u64 c.2] ∧ I64 c.1 ∧ 0 ≤ c.2 ∧ c.2 ≤ 18446744073709551615 := by
  obtain ⟨y0, y1, n, _, hl, h0, h1⟩ := trod_struct2 Try.underlying150 h
  have hl2 : cs.length = 2 := hl.trans Try.cellsEn
  match cs, hl2 with
  | [c0, c1], _ =>
    obtain ⟨a, e0, _, w0⟩ := DataW.trod_int Try.underlying3 h0
    obtain ⟨b, e1, _, w1⟩ := DataW.trod_int Try.underlying22 h1
    simp [Try.cellsInt, Try.cellsU64] at e0 e1
    exact ⟨(a, b), by rw [e0, e1], bounds_i64 w0, bounds_u64 w1⟩
theorem open_ents {r : Reach} {b0 : Nat} {v : Value} {d : DataW H} {p : List MemPlace} (hv : Value.okWide Try.prog w r b0 135 v)
    (h : DataW.Trod enc Try.prog w base spare held 135 v d p) : ∃ (A : Option Addr) (n c : Nat) (l : List (Int × Int)), v = .slice A n c ∧ l.length = n ∧ n ≤ maxLen ∧ EntsAt w A l ∧ (∀ e ∈ l, I64 e.1 ∧ 0 ≤ e.2 ∧ e.2 ≤ 18446744073709551615) := by
  obtain ⟨A, n, c, rfl⟩ := okWide_slice Try.underlying135 hv
  obtain ⟨fuel, hf⟩ := h
  rcases open_slice Try.underlying135 hf with ⟨hcs, _⟩ | ⟨a, len, cap, m, n', D, Pl, hcs, hb, hl, hm, hmm, hx, hi⟩
  · simp [Value.cells] at hcs
    obtain ⟨rfl, rfl, rfl⟩ := hcs
    exact ⟨none, 0, 0, [], rfl, rfl, by simp [maxLen], by simp [EntsAt], by simp⟩
  · simp [Value.cells] at hcs
    obtain ⟨rfl, rfl, rfl⟩ := hcs
    have hlm : n ≤ m := by rw [hmm]; split <;> omega
    have key : ∀ i, i < n → ∃ s : Int × Int, (∀ j u, ([.int .i64 s.1, .int .u64 s.2] : List Value)[j]? = some u → w.cell? ((a.add (i * 2)).add j) = some u) ∧ I64 s.1 ∧ 0 ≤ s.2 ∧ s.2 ≤ 18446744073709551615 := fun i hin => by
      obtain ⟨cs', hc, ht⟩ := hi i (by omega)
      rw [Try.cellsEn] at hc
      obtain ⟨s, rfl, hs⟩ := open_entL ht
      obtain ⟨_, _, hat⟩ := World.cells?_some hc
      refine ⟨s, fun j u hj => ?_, hs⟩
      have hj2 : j < 2 := by
        have := (List.getElem?_eq_some_iff.1 hj).1
        simpa using this
      rw [hat j hj2, hj]
    obtain ⟨l, hll, hp⟩ := exists_list _ n key
    refine ⟨some a, n, c, l, rfl, hll, by omega, fun h0 => ?_, fun e he => ?_⟩
    · have h00 := (hp 0 l[0] (List.getElem?_eq_getElem h0)).1 0 _ rfl
      obtain ⟨b, off, spot⟩ := a
      have hspot : spot = none := by simpa [Addr.add] using World.cell?_spot h00
      subst hspot
      refine ⟨b, off, rfl, ?_, fun k s hk => ⟨?_, ?_⟩⟩
      · have := World.block_lt_of_cell? w _ h00
        simpa [Addr.add] using this
      · have := (hp k s hk).1 0 _ rfl
        rwa [add_plain, add_plain] at this
      · have := (hp k s hk).1 1 _ rfl
        rwa [add_plain, add_plain] at this
    · obtain ⟨i, hi, rfl⟩ := List.getElem_of_mem he
      exact (hp i _ (List.getElem?_eq_getElem hi)).2
end
end Go.Proofs.Ythjkodjpopcjaaa

namespace Go.Proofs.Ythjkodjpopcjaaa
set_option maxRecDepth 100000
open Go.ChangeShapes Go.WideShapes Go.ChangeAt Go.RowKit Go.Joins Go.Deep

theorem Try.cellsReq : Try.prog.cellsOf 38 = 3 := by kernel_rfl
/-- A slice of things of n cells each, read as a list. -/
def SlAt (w : World) (A : Option Addr) (n : Nat) (l : List (List Value)) : Prop :=
  0 < l.length → ∃ b off, A = some ⟨b, off, none⟩ ∧ b < w.heap.size ∧ ∀ (k : Nat) (cs : List Value), l[k]? = some cs → ∀ (j : Nat) (u : Value), cs[j]? = some u → w.cell? ⟨b, off + k * n + j, none⟩ = some u
theorem SlAt.kept {w w' : World} {A : Option Addr} {n : Nat} {l : List (List Value)} (h : SlAt w A n l) (k : Kept (fun _ => False) w w') : SlAt w' A n l := fun h0 => by
  obtain ⟨b, off, e, hb, hc⟩ := h h0
  exact ⟨b, off, e, Nat.lt_of_lt_of_le hb k.size, fun i cs hi j u hj => k.cell_some (fun h => h) (hc i cs hi j u hj)⟩
section
variable {H : Type} {enc : TypeId × Value → H} {w : World} {base : Nat} {spare : Nat → Bool} {held : Bool}
theorem open_sl {α : Type} {T E n : Nat} {f : α → List Value} {P : α → Prop} (hu : Try.prog.underlying T = some (.slice E)) (hn : Try.prog.cellsOf E = n) (hpos : 0 < n)
    (hel : ∀ {fuel : Nat} {cs : List Value} {x : DataW H × List MemPlace}, DataW.trod enc Try.prog w base spare held fuel E cs = some x → ∃ s : α, cs = f s ∧ cs.length = n ∧ P s)
    {r : Reach} {b0 : Nat} {v : Value} {d : DataW H} {p : List MemPlace} (hv : Value.okWide Try.prog w r b0 T v)
    (h : DataW.Trod enc Try.prog w base spare held T v d p) : ∃ (A : Option Addr) (m c : Nat) (l : List α), v = .slice A m c ∧ l.length = m ∧ m ≤ maxLen ∧ SlAt w A n (l.map f) ∧ (∀ e ∈ l, P e) := by
  obtain ⟨A, n', c, rfl⟩ := okWide_slice hu hv
  obtain ⟨fuel, hf⟩ := h
  rcases open_slice hu hf with ⟨hcs, _⟩ | ⟨a, len, cap, m, n2, D, Pl, hcs, hb, hl, hm, hmm, hx, hi⟩
  · simp [Value.cells] at hcs
    obtain ⟨rfl, rfl, rfl⟩ := hcs
    exact ⟨none, 0, 0, [], rfl, rfl, by simp [maxLen], by simp [SlAt], by simp⟩
  · simp [Value.cells] at hcs
    obtain ⟨rfl, rfl, rfl⟩ := hcs
    have hlm : n' ≤ m := by rw [hmm]; split <;> omega
    have key : ∀ i, i < n' → ∃ s : α, (∀ j u, (f s)[j]? = some u → w.cell? ((a.add (i * n)).add j) = some u) ∧ 0 < (f s).length ∧ P s := fun i hin => by
      obtain ⟨cs', hc, ht⟩ := hi i (by omega)
      rw [hn] at hc
      obtain ⟨s, rfl, hl3, hs⟩ := hel ht
      obtain ⟨_, _, hat⟩ := World.cells?_some hc
      refine ⟨s, fun j u hj => ?_, by omega, hs⟩
      have hj2 : j < n := by
        have := (List.getElem?_eq_some_iff.1 hj).1
        omega
      rw [hat j hj2, hj]
    obtain ⟨l, hll, hp⟩ := exists_list _ n' key
    refine ⟨some a, n', c, l, rfl, hll, by omega, fun h0 => ?_, fun e he => ?_⟩
    · rw [List.length_map] at h0
      have hq := hp 0 l[0] (List.getElem?_eq_getElem h0)
      have h00 := hq.1 0 _ (List.getElem?_eq_getElem hq.2.1)
      obtain ⟨b, off, spot⟩ := a
      have hspot : spot = none := by simpa [Addr.add] using World.cell?_spot h00
      subst hspot
      refine ⟨b, off, rfl, ?_, fun k cs hk j u hj => ?_⟩
      · have := World.block_lt_of_cell? w _ h00
        simpa [Addr.add] using this
      · rw [List.getElem?_map] at hk
        cases hs : l[k]? with
        | none => rw [hs] at hk; cases hk
        | some s =>
          rw [hs] at hk
          cases hk
          have := (hp k s hs).1 j u hj
          rwa [add_plain, add_plain] at this
    · obtain ⟨i, hi, rfl⟩ := List.getElem_of_mem he
      exact (hp i _ (List.getElem?_eq_getElem hi)).2.2
theorem open_reqs {r : Reach} {b0 : Nat} {v : Value} {d : DataW H} {p : List MemPlace} (hv : Value.okWide Try.prog w r b0 25 v) (h : DataW.Trod enc Try.prog w base spare held 25 v d p) :
    ∃ (A : Option Addr) (m c : Nat) (l : List (Int × Int × Int)), v = .slice A m c ∧ l.length = m ∧ m ≤ maxLen ∧ SlAt w A 3 (l.map fun x => [.int .i64 x.1, .int .i64 x.2.1, .int .i64 x.2.2]) ∧ (∀ e ∈ l, I64 e.1 ∧ I64 e.2.1 ∧ I64 e.2.2) :=
  open_sl Try.underlying25 Try.cellsReq (by omega) (fun {fuel cs x} ht => by
    obtain ⟨y0, y1, y2, n, _, hl, h0, h1, h2⟩ := trod_struct3 Try.underlying38 ht
    have hl3 : cs.length = 3 := hl.trans Try.cellsReq
    match cs, hl3 with
    | [c0, c1, c2], _ =>
      obtain ⟨a, e0, _, w0⟩ := DataW.trod_int Try.underlying3 h0
      obtain ⟨b, e1, _, w1⟩ := DataW.trod_int Try.underlying3 h1
      obtain ⟨d, e2, _, w2⟩ := DataW.trod_int Try.underlying3 h2
      simp [Try.cellsInt] at e0 e1 e2
      exact ⟨(a, b, d), by rw [e0, e1, e2], rfl, bounds_i64 w0, bounds_i64 w1, bounds_i64 w2⟩) hv h
theorem open_u64s {r : Reach} {b0 : Nat} {v : Value} {d : DataW H} {p : List MemPlace} (hv : Value.okWide Try.prog w r b0 63 v) (h : DataW.Trod enc Try.prog w base spare held 63 v d p) :
    ∃ (A : Option Addr) (m c : Nat) (l : List Int), v = .slice A m c ∧ l.length = m ∧ m ≤ maxLen ∧ SlAt w A 1 (l.map fun x => [.int .u64 x]) ∧ (∀ e ∈ l, 0 ≤ e ∧ e ≤ 18446744073709551615) :=
  open_sl Try.underlying63 Try.cellsU64 (by omega) (fun ht => by
    obtain ⟨a, e0, _, w0⟩ := DataW.trod_int Try.underlying22 ht
    exact ⟨a, e0, by rw [e0]; rfl, bounds_u64 w0⟩) hv h
end
end Go.Proofs.Ythjkodjpopcjaaa
