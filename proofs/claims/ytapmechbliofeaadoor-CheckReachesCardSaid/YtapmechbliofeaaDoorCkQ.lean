/- Layer 5 (check): slices of instructions and of booleans opened; append of a slice that may be nil. -/
import Derived.Test.YtapmechbliofeaaDoorInsO
import Derived.Test.YtapmechbliofeaaDoorCkJ
import Derived.Deep.Grids
namespace Go.Proofs.YtapmechbliofeaaDoor
open Go.ChangeShapes Go.WideShapes Go.ChangeAt Go.RowKit Go.Joins Go.Deep

theorem exists_list {α : Type} (P : Nat → α → Prop) : ∀ n : Nat, (∀ i, i < n → ∃ a, P i a) → ∃ l : List α, l.length = n ∧ ∀ i a, l[i]? = some a → P i a
  | 0, _ => ⟨[], rfl, by simp⟩
  | n + 1, h => by
    obtain ⟨l, hl, hp⟩ := exists_list P n (fun i hi => h i (by omega))
    obtain ⟨a, ha⟩ := h n (by omega)
    refine ⟨l ++ [a], by simp [hl], fun i b hb => ?_⟩
    rcases Nat.lt_or_ge i l.length with hi | hi
    · rw [List.getElem?_append_left hi] at hb
      exact hp i b hb
    · rw [List.getElem?_append_right hi] at hb
      obtain ⟨hj, hb⟩ := List.getElem?_eq_some_iff.1 hb
      have : i = n := by simp at hj; omega
      subst this
      simp at hb
      exact hb ▸ ha

section
variable {H : Type} {enc : TypeId × Value → H} {w : World} {base : Nat} {spare : Nat → Bool} {held : Bool}
theorem open_inss {r : Reach} {b0 : Nat} {v : Value} {d : DataW H} {p : List MemPlace} (hv : Value.okWide Tryd.prog w r b0 22 v)
    (h : DataW.Trod enc Tryd.prog w base spare held 22 v d p) : ∃ (A : Option Addr) (n c : Nat) (l : List InsD), v = .slice A n c ∧ l.length = n ∧ n ≤ maxLen ∧ InsAt w A l ∧ (n ≤ c ∧ ∀ d ∈ l, d.Ok) := by
  obtain ⟨A, n, c, rfl⟩ := okWide_slice Tryd.underlying22 hv
  obtain ⟨fuel, hf⟩ := h
  rcases open_slice Tryd.underlying22 hf with ⟨hcs, _⟩ | ⟨a, len, cap, m, n', D, Pl, hcs, hb, hl, hm, hmm, hx, hi⟩
  · simp [Value.cells] at hcs
    obtain ⟨rfl, rfl, rfl⟩ := hcs
    exact ⟨none, 0, 0, [], rfl, rfl, by simp [maxLen], by simp [InsAt], Nat.le_refl _, by simp⟩
  · simp [Value.cells] at hcs
    obtain ⟨rfl, rfl, rfl⟩ := hcs
    have hlm : n ≤ m := by rw [hmm]; split <;> omega
    have key : ∀ i, i < n → ∃ s : InsD, (∀ j u, s.L[j]? = some u → w.cell? ((a.add (i * 5)).add j) = some u) ∧ s.Ok := fun i hin => by
      obtain ⟨cs', hc, ht⟩ := hi i (by omega)
      rw [cellsIns] at hc
      obtain ⟨s, rfl, hok⟩ := open_insL ht
      obtain ⟨_, _, hat⟩ := World.cells?_some hc
      refine ⟨s, fun j u hj => ?_, hok⟩
      have hj5 : j < 5 := by
        have := (List.getElem?_eq_some_iff.1 hj).1
        simpa [InsD.L] using this
      rw [hat j hj5, hj]
    obtain ⟨l, hll, hp⟩ := exists_list _ n key
    refine ⟨some a, n, c, l, rfl, hll, by omega, fun h0 => ?_, hl, fun d hd => ?_⟩
    · have h00 := (hp 0 l[0] (List.getElem?_eq_getElem h0)).1 0 _ rfl
      obtain ⟨b, off, spot⟩ := a
      have hspot : spot = none := by simpa [Addr.add] using World.cell?_spot h00
      subst hspot
      refine ⟨b, off, rfl, ?_, fun k s hk j u hj => ?_⟩
      · have := World.block_lt_of_cell? w _ h00
        simpa [Addr.add] using this
      · have := (hp k s hk).1 j u hj
        rwa [addr_off, addr_off] at this
    · obtain ⟨k, hk⟩ := List.getElem?_of_mem hd
      exact (hp k d hk).2
theorem open_boolsAt {r : Reach} {b0 : Nat} {v : Value} {d : DataW H} {p : List MemPlace} (hv : Value.okWide Tryd.prog w r b0 32 v) (h : DataW.Trod enc Tryd.prog w base (fun _ => true) held 32 v d p) :
    ∃ (A : Option Addr) (n c : Nat) (B : Nat → Bool), v = .slice A n c ∧ n ≤ maxLen ∧ BoolsAt w A n B := by
  obtain ⟨A, n, c, rfl⟩ := okWide_slice Tryd.underlying32 hv
  obtain ⟨fuel, hf⟩ := h
  rcases open_bools Tryd.underlying32 Tryd.underlying4 (by kernel_rfl) hf with ⟨hcs, _⟩ | ⟨a, len, cap, B, hcs, _, hl, hm, _, hcell⟩
  · simp [Value.cells] at hcs
    obtain ⟨rfl, rfl, rfl⟩ := hcs
    exact ⟨none, 0, 0, fun _ => false, rfl, by simp [maxLen], fun h => absurd h (by omega)⟩
  · simp [Value.cells] at hcs
    obtain ⟨rfl, rfl, rfl⟩ := hcs
    refine ⟨some a, n, c, B, rfl, by omega, fun h0 => ?_⟩
    have h00 := hcell 0 (by omega)
    obtain ⟨b, off, spot⟩ := a
    have hspot : spot = none := by simpa [Addr.add] using World.cell?_spot h00
    subst hspot
    refine ⟨b, off, rfl, fun k hk => ?_⟩
    have := hcell k (by omega)
    rwa [addr_off] at this
end

/-! ### append of a slice of instructions, nil let in -/
theorem InsAt.flat {w : World} {ad : Addr} {l : List InsD} (h : InsAt w (some ad) l) : ∀ j u, (flatI l)[j]? = some u → w.cell? (ad.add j) = some u := by
  intro j u hu
  have hlt := (List.getElem?_eq_some_iff.1 hu).1
  rw [flatI_length] at hlt
  obtain ⟨b, off, hA, _, hc⟩ := h (by omega)
  obtain rfl := Option.some.inj hA
  have hk : j / 5 < l.length := by omega
  have e : j = j / 5 * 5 + j % 5 := by omega
  rw [e, flatI_cell l (j / 5) _ (List.getElem?_eq_getElem hk) (j % 5) (Nat.mod_lt _ (by omega))] at hu
  rw [addr_off]
  have := hc (j / 5) _ (List.getElem?_eq_getElem hk) (j % 5) u hu
  rw [Nat.add_assoc, ← e] at this
  exact this

theorem run_append_ins (w : World) (ty : TypeId) (g n cap : Nat) (xs : List Value) (hown : w.ownsRow 0 38 5 (.slice (some ⟨g, 0, none⟩) n cap) n xs) (A : Option Addr) (m c : Nat) (l : List InsD) (hl : l.length = m) (hA : InsAt w A l) (hb : n + m ≤ 1000) :
    ∃ g' cap' w', (Builtin.append_ #[22, 22] ty #[.slice (some ⟨g, 0, none⟩) n cap, .slice A m c]).run Tryd.prog w = .ok (.slice (some ⟨g', 0, none⟩) (n + m) cap') w' ∧
      w'.ownsRow 0 38 5 (.slice (some ⟨g', 0, none⟩) (n + m) cap') (n + m) (xs ++ flatI l) ∧ w.grownBy w' (some g) ∧ (g' = g ∨ g' = w.heap.size) := by
  obtain ⟨i0, hi0, hz0, hz1, hz2⟩ := info_parts' infoIns
  cases A with
  | none =>
    have hm0 : m = 0 := by
      rcases Nat.eq_zero_or_pos m with h | h
      · exact h
      · obtain ⟨b, off, hh, _⟩ := hA (by omega)
        cases hh
    subst hm0
    obtain rfl := List.eq_nil_of_length_eq_zero hl
    refine ⟨g, cap, w, ?_, by simpa [flatI] using hown, ⟨rfl, rfl, rfl, Nat.le_refl _, fun _ _ _ => rfl⟩, .inl rfl⟩
    have hcap : n ≤ cap := own_cap hown
    simp [Builtin.append_, run_underlying Tryd.underlying22, sizeOf, typeInfo, hi0, Builtin.lenOf, Builtin.firstCells, hcap, storeCells]
  | some ad =>
    obtain ⟨v', w', hr, h2, h3, h4, h5⟩ := run_append_own_at (P := Tryd.prog) w 0 22 ty 38 i0 _ 5 40 Tryd.underlying22 hi0 hz0 hz1 hz2 rfl (by decide) _ n xs hown ad m c (flatI l) (by rw [flatI_length, hl]) hA.flat (flatI_one' l) (by unfold maxLen; omega) (by omega) (Nat.zero_le _)
    have hnn : v' ≠ .slice none 0 0 := fun h => by
      have := (h4.1 h).1
      cases this
    rcases h2.2 with ⟨hv, _⟩ | ⟨g', cap', cur, rfl, _⟩
    · exact absurd hv hnn
    · refine ⟨g', cap', w', hr, h2, h3, ?_⟩
      rcases h5 with h5 | h5
      · exact .inl (by simpa [Value.ownBlock] using h5)
      · exact .inr (by simpa [Value.ownBlock] using h5)

theorem wpList_append_ins {w : World} {ops : Array Oper} {rest : List Oper} {o : Oper} {a : Act} {Q : Exit → Act → World → Prop} (hgd : o.guard = none) (s x : Operand)
    (ho : o.op = .call { callee := .builtin .append, args := #[s, x], argTypes := #[22, 22] })
    (g n cap : Nat) (xs : List Value) (hs : a.eval s = .slice (some ⟨g, 0, none⟩) n cap) (hown : w.ownsRow 0 38 5 (.slice (some ⟨g, 0, none⟩) n cap) n xs) (A : Option Addr) (m c : Nat) (l : List InsD) (hx : a.eval x = .slice A m c) (hl : l.length = m) (hA : InsAt w A l) (hb : n + m ≤ 1000)
    (h : ∀ g' cap' w', w'.ownsRow 0 38 5 (.slice (some ⟨g', 0, none⟩) (n + m) cap') (n + m) (xs ++ flatI l) → w.grownBy w' (some g) → (g' = g ∨ g' = w.heap.size) → wpList Tryd.prog ops Q rest (a.put o.dst (.slice (some ⟨g', 0, none⟩) (n + m) cap')) w') :
    wpList Tryd.prog ops Q (o :: rest) a w := by
  refine wpList_plain hgd fun K hK => ?_
  obtain ⟨g', cap', w', hr, h2, h3, h4⟩ := run_append_ins w o.type g n cap xs hown A m c l hl hA hb
  unfold Oper.wp execOp
  simp only [ho, resolve, invoke, builtin, Sem.run_bind, Sem.run_pure, Result.andThen_ok, List.map_toArray, List.map_cons, List.map_nil, hs, hx, hr]
  exact hK _ _ (h g' cap' w' h2 h3 h4)

end Go.Proofs.YtapmechbliofeaaDoor
