/- Layer 3 (instr): slices of instructions and of bytes opened; append of a slice that may be nil; a slice from the fourth on. -/
import Derived.Test.YtkinnhdagdkhcaaDoorInsO
namespace Go.Proofs.YtkinnhdagdkhcaaDoor
open Go.ChangeShapes Go.WideShapes Go.ChangeAt Go.RowKit Go.Joins Go.Deep

theorem exists_list {α : Type} (P : Nat → α → Prop) : ∀ n : Nat, (∀ i, i < n → ∃ a, P i a) → ∃ l : List α, l.length = n ∧ ∀ i a, l[i]? = some a → P i a
  | 0, _ => ⟨[], rfl, by simp⟩
  | n + 1, h => by
    obtain ⟨l, hl, hp⟩ := exists_list P n (fun i hi => h i (by omega))
    obtain ⟨a, ha⟩ := h n (by omega)
    refine ⟨l ++ [a], by simp [hl], fun i b hb => ?_⟩
    rcases Nat.lt_or_ge i l.length with hi | hi
    · rw [List.getElem?_append_left hi] at hb
      exact hp i b hb
    · rw [List.getElem?_append_right hi] at hb
      obtain ⟨hj, hb⟩ := List.getElem?_eq_some_iff.1 hb
      have : i = n := by simp at hj; omega
      subst this
      simp at hb
      exact hb ▸ ha

section
variable {H : Type} {enc : TypeId × Value → H} {w : World} {base : Nat} {spare : Nat → Bool} {held : Bool}
theorem open_inss {r : Reach} {b0 : Nat} {v : Value} {d : DataW H} {p : List MemPlace} (hv : Value.okWide Tryd.prog w r b0 22 v)
    (h : DataW.Trod enc Tryd.prog w base spare held 22 v d p) : ∃ (A : Option Addr) (n c : Nat) (l : List InsD), v = .slice A n c ∧ l.length = n ∧ n ≤ maxLen ∧ InsAt w A l ∧ ∀ d ∈ l, d.Ok := by
  obtain ⟨A, n, c, rfl⟩ := okWide_slice Tryd.underlying22 hv
  obtain ⟨fuel, hf⟩ := h
  rcases open_slice Tryd.underlying22 hf with ⟨hcs, _⟩ | ⟨a, len, cap, m, n', D, Pl, hcs, hb, hl, hm, hmm, hx, hi⟩
  · simp [Value.cells] at hcs
    obtain ⟨rfl, rfl, rfl⟩ := hcs
    exact ⟨none, 0, 0, [], rfl, rfl, by simp [maxLen], by simp [InsAt], by simp⟩
  · simp [Value.cells] at hcs
    obtain ⟨rfl, rfl, rfl⟩ := hcs
    have hlm : n ≤ m := by rw [hmm]; split <;> omega
    have key : ∀ i, i < n → ∃ s : InsD, (∀ j u, s.L[j]? = some u → w.cell? ((a.add (i * 5)).add j) = some u) ∧ s.Ok := fun i hin => by
      obtain ⟨cs', hc, ht⟩ := hi i (by omega)
      rw [cellsIns] at hc
      obtain ⟨s, rfl, hok⟩ := open_insL ht
      obtain ⟨_, _, hat⟩ := World.cells?_some hc
      refine ⟨s, fun j u hj => ?_, hok⟩
      have hj5 : j < 5 := by
        have := (List.getElem?_eq_some_iff.1 hj).1
        simpa [InsD.L] using this
      rw [hat j hj5, hj]
    obtain ⟨l, hll, hp⟩ := exists_list _ n key
    refine ⟨some a, n, c, l, rfl, hll, by omega, fun h0 => ?_, fun d hd => ?_⟩
    · have h00 := (hp 0 l[0] (List.getElem?_eq_getElem h0)).1 0 _ rfl
      obtain ⟨b, off, spot⟩ := a
      have hspot : spot = none := by simpa [Addr.add] using World.cell?_spot h00
      subst hspot
      refine ⟨b, off, rfl, ?_, fun k s hk j u hj => ?_⟩
      · have := World.block_lt_of_cell? w _ h00
        simpa [Addr.add] using this
      · have := (hp k s hk).1 j u hj
        rwa [addr_off, addr_off] at this
    · obtain ⟨k, hk⟩ := List.getElem?_of_mem hd
      exact (hp k d hk).2
theorem open_bytes {r : Reach} {b0 : Nat} {v : Value} {d : DataW H} {p : List MemPlace} (hv : Value.okWide Tryd.prog w r b0 23 v) (h : DataW.Trod enc Tryd.prog w base spare held 23 v d p) :
    ∃ (A : Option Addr) (n c : Nat) (l : List Int), v = .slice A n c ∧ l.length = n ∧ n ≤ maxLen ∧ BytesAt w A l ∧ (n ≤ c ∧ ByteL l) := by
  obtain ⟨A, n, c, rfl⟩ := okWide_slice Tryd.underlying23 hv
  obtain ⟨fuel, hf⟩ := h
  rcases open_ints Tryd.underlying23 Tryd.underlying5 (by kernel_rfl) hf with ⟨hcs, _⟩ | ⟨a, len, cap, zs, hcs, _, hl, hm, hz, _, hcell, hwf⟩
  · simp [Value.cells] at hcs
    obtain ⟨rfl, rfl, rfl⟩ := hcs
    exact ⟨none, 0, 0, [], rfl, rfl, by simp [maxLen], by simp [BytesAt], Nat.le_refl _, by intro x hx; cases hx⟩
  · simp [Value.cells] at hcs
    obtain ⟨rfl, rfl, rfl⟩ := hcs
    have hzn : n ≤ zs.length := by rw [hz]; split <;> omega
    refine ⟨some a, n, c, zs.take n, rfl, by simp; omega, by omega, fun h0 => ?_, hl, fun x hx => ?_⟩
    · have h0' : 0 < zs.length := by simp at h0; omega
      have h00 := hcell 0 h0'
      obtain ⟨b, off, spot⟩ := a
      have hspot : spot = none := by simpa [Addr.add] using World.cell?_spot h00
      subst hspot
      refine ⟨b, off, rfl, ?_, fun k v hk => ?_⟩
      · have := World.block_lt_of_cell? w _ h00
        simpa [Addr.add] using this
      · have hk' : k < n := by
          have := (List.getElem?_eq_some_iff.1 hk).1
          simp at this; omega
        rw [List.getElem?_take_of_lt hk'] at hk
        have := hcell k (by omega)
        rw [addr_off, List.getD_eq_getElem?_getD, hk] at this
        exact this
    · have := bounds_u8 (hwf x (List.mem_of_mem_take hx))
      omega
end

/-! ### append of a slice of instructions, nil let in -/
theorem InsAt.flat {w : World} {ad : Addr} {l : List InsD} (h : InsAt w (some ad) l) : ∀ j u, (flatI l)[j]? = some u → w.cell? (ad.add j) = some u := by
  intro j u hu
  have hlt := (List.getElem?_eq_some_iff.1 hu).1
  rw [flatI_length] at hlt
  obtain ⟨b, off, hA, _, hc⟩ := h (by omega)
  obtain rfl := Option.some.inj hA
  have hk : j / 5 < l.length := by omega
  have e : j = j / 5 * 5 + j % 5 := by omega
  rw [e, flatI_cell l (j / 5) _ (List.getElem?_eq_getElem hk) (j % 5) (Nat.mod_lt _ (by omega))] at hu
  rw [addr_off]
  have := hc (j / 5) _ (List.getElem?_eq_getElem hk) (j % 5) u hu
  rw [Nat.add_assoc, ← e] at this
  exact this

theorem run_append_ins (w : World) (ty : TypeId) (g n cap : Nat) (xs : List Value) (hown : w.ownsRow 0 47 5 (.slice (some ⟨g, 0, none⟩) n cap) n xs) (A : Option Addr) (m c : Nat) (l : List InsD) (hl : l.length = m) (hA : InsAt w A l) (hb : n + m ≤ 1000) :
    ∃ g' cap' w', (Builtin.append_ #[22, 22] ty #[.slice (some ⟨g, 0, none⟩) n cap, .slice A m c]).run Tryd.prog w = .ok (.slice (some ⟨g', 0, none⟩) (n + m) cap') w' ∧
      w'.ownsRow 0 47 5 (.slice (some ⟨g', 0, none⟩) (n + m) cap') (n + m) (xs ++ flatI l) ∧ w.grownBy w' (some g) ∧ (g' = g ∨ g' = w.heap.size) := by
  obtain ⟨i0, hi0, hz0, hz1, hz2⟩ := info_parts' infoIns
  cases A with
  | none =>
    have hm0 : m = 0 := by
      rcases Nat.eq_zero_or_pos m with h | h
      · exact h
      · obtain ⟨b, off, hh, _⟩ := hA (by omega)
        cases hh
    subst hm0
    obtain rfl := List.eq_nil_of_length_eq_zero hl
    refine ⟨g, cap, w, ?_, by simpa [flatI] using hown, ⟨rfl, rfl, rfl, Nat.le_refl _, fun _ _ _ => rfl⟩, .inl rfl⟩
    have hcap : n ≤ cap := own_cap hown
    simp [Builtin.append_, run_underlying Tryd.underlying22, sizeOf, typeInfo, hi0, Builtin.lenOf, Builtin.firstCells, hcap, storeCells]
  | some ad =>
    obtain ⟨v', w', hr, h2, h3, h4, h5⟩ := run_append_own_at (P := Tryd.prog) w 0 22 ty 47 i0 _ 5 40 Tryd.underlying22 hi0 hz0 hz1 hz2 rfl (by decide) _ n xs hown ad m c (flatI l) (by rw [flatI_length, hl]) hA.flat (flatI_one' l) (by unfold maxLen; omega) (by omega) (Nat.zero_le _)
    have hnn : v' ≠ .slice none 0 0 := fun h => by
      have := (h4.1 h).1
      cases this
    rcases h2.2 with ⟨hv, _⟩ | ⟨g', cap', cur, rfl, _⟩
    · exact absurd hv hnn
    · refine ⟨g', cap', w', hr, h2, h3, ?_⟩
      rcases h5 with h5 | h5
      · exact .inl (by simpa [Value.ownBlock] using h5)
      · exact .inr (by simpa [Value.ownBlock] using h5)

theorem wpList_append_ins {w : World} {ops : Array Oper} {rest : List Oper} {o : Oper} {a : Act} {Q : Exit → Act → World → Prop} (hgd : o.guard = none) (s x : Operand)
    (ho : o.op = .call { callee := .builtin .append, args := #[s, x], argTypes := #[22, 22] })
    (g n cap : Nat) (xs : List Value) (hs : a.eval s = .slice (some ⟨g, 0, none⟩) n cap) (hown : w.ownsRow 0 47 5 (.slice (some ⟨g, 0, none⟩) n cap) n xs) (A : Option Addr) (m c : Nat) (l : List InsD) (hx : a.eval x = .slice A m c) (hl : l.length = m) (hA : InsAt w A l) (hb : n + m ≤ 1000)
    (h : ∀ g' cap' w', w'.ownsRow 0 47 5 (.slice (some ⟨g', 0, none⟩) (n + m) cap') (n + m) (xs ++ flatI l) → w.grownBy w' (some g) → (g' = g ∨ g' = w.heap.size) → wpList Tryd.prog ops Q rest (a.put o.dst (.slice (some ⟨g', 0, none⟩) (n + m) cap')) w') :
    wpList Tryd.prog ops Q (o :: rest) a w := by
  refine wpList_plain hgd fun K hK => ?_
  obtain ⟨g', cap', w', hr, h2, h3, h4⟩ := run_append_ins w o.type g n cap xs hown A m c l hl hA hb
  unfold Oper.wp execOp
  simp only [ho, resolve, invoke, builtin, Sem.run_bind, Sem.run_pure, Result.andThen_ok, List.map_toArray, List.map_cons, List.map_nil, hs, hx, hr]
  exact hK _ _ (h g' cap' w' h2 h3 h4)

/-! ### what stands behind the head -/
def tailA (g c : Nat) : Option Addr := if c = 4 then some ⟨g, 0, none⟩ else some ⟨g, 4, none⟩
theorem run_tail (W : World) (g n c : Nat) (h4 : 4 ≤ n) :
    (Instr.slice 23 (.slice (some ⟨g, 0, none⟩) n c) (some (.int .i64 4)) none none).run Tryd.prog W = .ok (.slice (tailA g c) (n - 4) (c - 4)) W := by
  rw [run_slice_l W 23 (some ⟨g, 0, none⟩) n c (by kernel_rfl) .i64 4 (by omega) (by omega)]
  have hs : (sizeOf (Tryd.prog.elem 23)).run Tryd.prog W = .ok 1 W := by kernel_rfl
  rw [hs]
  simp only [Result.andThen, sliced, tailA]
  have e4 : Int.toNat 4 = 4 := rfl
  rw [e4]
  split <;> simp [addr_off]
theorem tail_bytes {W : World} {g n c base : Nat} {l : List Int} (ho : W.ownsRow base 5 1 (.slice (some ⟨g, 0, none⟩) n c) n (bv l)) (hn : l.length = n) (_h4 : 4 ≤ n) : BytesAt W (tailA g c) (l.drop 4) := fun h0 => by
  have hcap := own_cap ho
  have hlt : 4 < n := by simp at h0; omega
  have hne : ¬ c = 4 := by omega
  refine ⟨g, 4, by unfold tailA; rw [if_neg hne], (ho.lt g rfl).2, fun k x hx => ?_⟩
  rw [List.getElem?_drop] at hx
  obtain ⟨b, off, hA, _, hc⟩ := BytesAt.of_own ho hn (by omega)
  obtain ⟨rfl, rfl⟩ : g = b ∧ 0 = off := by
    have := Option.some.inj hA
    injection this with h1 h2
    exact ⟨h1, h2⟩
  have := hc _ x hx
  rwa [Nat.zero_add] at this
theorem conv_tail {W : World} {g n c base : Nat} {l : List Int} (ho : W.ownsRow base 5 1 (.slice (some ⟨g, 0, none⟩) n c) n (bv l)) (hn : l.length = n) (h4 : 4 ≤ n) :
    (convert 23 9 (.slice (tailA g c) (n - 4) (c - 4))).run Tryd.prog W = .ok (.string (strL (l.drop 4))) W :=
  conv_bytes W (tailA g c) (n - 4) (c - 4) (l.drop 4) (by simp; omega) (fun _ => .inr (by unfold tailA; split <;> exact ⟨_, _, rfl⟩)) (tail_bytes ho hn h4)

theorem strL_append (a b : List Int) : strL a ++ strL b = strL (a ++ b) := by
  unfold strL
  rw [ByteArray.mk_append_mk, List.map_append]
theorem encL_drop (l : List InsD) : (encL l).drop 4 = bytesAll l := by
  unfold encL headL
  rfl
theorem bytesAll_append (a b : List InsD) : bytesAll (a ++ b) = bytesAll a ++ bytesAll b := List.flatMap_append

end Go.Proofs.YtkinnhdagdkhcaaDoor
