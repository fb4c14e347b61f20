/- Layer 2 (glyph): rows of tokens among the arguments. -/
import Derived.Test.YtonihjijienigaaDoorGlO
import Derived.Test.YtonihjijienigaaDoorGlK
namespace Go.Proofs.YtonihjijienigaaDoor
open Go.ChangeShapes Go.WideShapes Go.ChangeAt Go.RowKit Go.Joins Go.Deep

theorem exists_list {α : Type} (P : Nat → α → Prop) : ∀ n : Nat, (∀ i, i < n → ∃ a, P i a) → ∃ l : List α, l.length = n ∧ ∀ i a, l[i]? = some a → P i a
  | 0, _ => ⟨[], rfl, by simp⟩
  | n + 1, h => by
    obtain ⟨l, hl, hp⟩ := exists_list P n (fun i hi => h i (by omega))
    obtain ⟨a, ha⟩ := h n (by omega)
    refine ⟨l ++ [a], by simp [hl], fun i b hb => ?_⟩
    rcases Nat.lt_or_ge i l.length with hi | hi
    · rw [List.getElem?_append_left hi] at hb
      exact hp i b hb
    · rw [List.getElem?_append_right hi] at hb
      obtain ⟨hj, hb⟩ := List.getElem?_eq_some_iff.1 hb
      have : i = n := by simp at hj; omega
      subst this
      simp at hb
      exact hb ▸ ha

section
variable {H : Type} {enc : TypeId × Value → H} {w : World} {base : Nat} {spare : Nat → Bool} {held : Bool}
set_option maxRecDepth 100000 in
theorem open_tokL {fuel : Nat} {cs : List Value} {x : DataW H × List MemPlace} (h : DataW.trod enc Tryd.prog w base spare held fuel 39 cs = some x) : ∃ d : Tok, cs = d.L ∧ d.num < 18446744073709551616 := by
  obtain ⟨xs, n, _, _, hl, hlen, hf⟩ := DataW.trod_struct Tryd.underlying39 h
  have hl2 : cs.length = 5 := hl.trans cellsTok
  match cs, hl2, xs, hlen with
  | [c0, c1, c2, c3, c4], _, [y0, y1, y2, y3, y4], _ =>
    obtain ⟨kd, e0, _, b0⟩ := DataW.trod_int Tryd.underlying3 (hf 0 _ rfl)
    obtain ⟨tx, e1, _, b1⟩ := DataW.trod_string Tryd.underlying9 (hf 1 _ rfl)
    obtain ⟨nm, e2, _, b2⟩ := DataW.trod_int Tryd.underlying37 (hf 2 _ rfl)
    obtain ⟨at_, e3, _, b3⟩ := DataW.trod_int Tryd.underlying3 (hf 3 _ rfl)
    obtain ⟨ln, e4, _, b4⟩ := DataW.trod_int Tryd.underlying3 (hf 4 _ rfl)
    have hb := bounds_u64 b2
    obtain ⟨n, rfl⟩ : ∃ n : Nat, nm = n := ⟨nm.toNat, by omega⟩
    simp [cellsInt, cellsU64, cellsStr] at e0 e1 e2 e3 e4
    exact ⟨⟨kd, tx, n, at_, ln⟩, by simp [Tok.L, e0, e1, e2, e3, e4], by show n < _; omega⟩
set_option maxRecDepth 100000 in
theorem open_toks {r : Reach} {b0 : Nat} {v : Value} {d : DataW H} {p : List MemPlace} (hv : Value.okWide Tryd.prog w r b0 23 v)
    (h : DataW.Trod enc Tryd.prog w base spare held 23 v d p) : ∃ (A : Option Addr) (n c : Nat) (l : List Tok), v = .slice A n c ∧ l.length = n ∧ n ≤ maxLen ∧ TokAt w A l ∧ ∀ d ∈ l, d.num < 18446744073709551616 := by
  obtain ⟨A, n, c, rfl⟩ := okWide_slice Tryd.underlying23 hv
  obtain ⟨fuel, hf⟩ := h
  rcases open_slice Tryd.underlying23 hf with ⟨hcs, _⟩ | ⟨a, len, cap, m, n', D, Pl, hcs, hb, hl, hm, hmm, hx, hi⟩
  · simp [Value.cells] at hcs
    obtain ⟨rfl, rfl, rfl⟩ := hcs
    exact ⟨none, 0, 0, [], rfl, rfl, by simp [maxLen], TokAt.nil _ _, by simp⟩
  · simp [Value.cells] at hcs
    obtain ⟨rfl, rfl, rfl⟩ := hcs
    have hlm : n ≤ m := by rw [hmm]; split <;> omega
    have key : ∀ i, i < n → ∃ s : Tok, (∀ j u, s.L[j]? = some u → w.cell? ((a.add (i * 5)).add j) = some u) ∧ s.num < 18446744073709551616 := fun i hin => by
      obtain ⟨cs', hc, ht⟩ := hi i (by omega)
      rw [cellsTok] at hc
      obtain ⟨s, rfl, hok⟩ := open_tokL ht
      obtain ⟨_, _, hat⟩ := World.cells?_some hc
      refine ⟨s, fun j u hj => ?_, hok⟩
      have hj5 : j < 5 := by
        have := (List.getElem?_eq_some_iff.1 hj).1
        simpa [Tok.L] using this
      rw [hat j hj5, hj]
    obtain ⟨l, hll, hp⟩ := exists_list _ n key
    refine ⟨some a, n, c, l, rfl, hll, by omega, fun h0 => ?_, fun d hd => ?_⟩
    · have h00 := (hp 0 l[0] (List.getElem?_eq_getElem h0)).1 0 _ rfl
      obtain ⟨b, off, spot⟩ := a
      have hspot : spot = none := by simpa [Addr.add] using World.cell?_spot h00
      subst hspot
      refine ⟨b, off, rfl, ?_, fun k s hk j u hj => ?_⟩
      · have := World.block_lt_of_cell? w _ h00
        simpa [Addr.add] using this
      · have := (hp k s hk).1 j u hj
        rwa [addr_off, addr_off] at this
    · obtain ⟨k, hk⟩ := List.getElem?_of_mem hd
      exact (hp k d hk).2
end
end Go.Proofs.YtonihjijienigaaDoor
