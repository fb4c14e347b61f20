/- Layer 1 (cell): integers and slices of uint64 opened; sums. -/
import Derived.Test.YtkinnhdagdkhcaaCellK
import Derived.OpenShut
namespace Go.Proofs.Ytkinnhdagdkhcaa
open Go.ChangeShapes Go.WideShapes Go.ChangeAt Go.RowKit Go.Joins Go.Deep

/-- An integer that Go's int can hold. -/
def Int64 (x : Int) : Prop := -9223372036854775808 ≤ x ∧ x ≤ 9223372036854775807
/-- A slice of uint64 reads as a list. -/
def U64sAt (w : World) (A : Option Addr) (l : List Int) : Prop :=
  0 < l.length → ∃ b off, A = some ⟨b, off, none⟩ ∧ b < w.heap.size ∧ ∀ (k : Nat) (v : Int), l[k]? = some v → w.cell? ⟨b, off + k, none⟩ = some (.int .u64 v)
theorem U64sAt.kept {w w' : World} {A : Option Addr} {l : List Int} (h : U64sAt w A l) (k : Kept (fun _ => False) w w') : U64sAt w' A l := fun h0 => by
  obtain ⟨b, off, hA, hb, hc⟩ := h h0
  exact ⟨b, off, hA, Nat.lt_of_lt_of_le hb k.size, fun k' s hs => k.cell_some (fun h => h) (hc k' s hs)⟩

section
variable {H : Type} {enc : TypeId × Value → H} {w : World} {base : Nat} {spare : Nat → Bool} {held : Bool}
theorem open_int64 {r : Reach} {b0 : Nat} {v : Value} {d : DataW H} {p : List MemPlace} (hv : Value.okWide Try.prog w r b0 3 v) (h : DataW.Trod enc Try.prog w base spare held 3 v d p) : ∃ x : Int, v = .int .i64 x ∧ Int64 x := by
  obtain ⟨x, rfl, _, _, hw⟩ := open_int Try.underlying3 hv h
  exact ⟨x, rfl, bounds_i64 hw⟩
theorem open_u64s {r : Reach} {b0 : Nat} {v : Value} {d : DataW H} {p : List MemPlace} (hv : Value.okWide Try.prog w r b0 54 v) (h : DataW.Trod enc Try.prog w base spare held 54 v d p) :
    ∃ (A : Option Addr) (n c : Nat) (l : List Int), v = .slice A n c ∧ l.length = n ∧ n ≤ maxLen ∧ U64sAt w A l := by
  obtain ⟨A, n, c, rfl⟩ := okWide_slice Try.underlying54 hv
  obtain ⟨fuel, hf⟩ := h
  rcases open_ints Try.underlying54 Try.underlying33 (by kernel_rfl) hf with ⟨hcs, _⟩ | ⟨a, len, cap, zs, hcs, _, hl, hm, hz, _, hcell, _⟩
  · simp [Value.cells] at hcs
    obtain ⟨rfl, rfl, rfl⟩ := hcs
    exact ⟨none, 0, 0, [], rfl, rfl, by simp [maxLen], by simp [U64sAt]⟩
  · simp [Value.cells] at hcs
    obtain ⟨rfl, rfl, rfl⟩ := hcs
    have hzn : n ≤ zs.length := by rw [hz]; split <;> omega
    refine ⟨some a, n, c, zs.take n, rfl, by simp; omega, by omega, fun h0 => ?_⟩
    have h0' : 0 < zs.length := by simp at h0; omega
    have h00 := hcell 0 h0'
    obtain ⟨b, off, spot⟩ := a
    have hspot : spot = none := by simpa [Addr.add] using World.cell?_spot h00
    subst hspot
    refine ⟨b, off, rfl, ?_, fun k v hk => ?_⟩
    · have := World.block_lt_of_cell? w _ h00
      simpa [Addr.add] using this
    · have hk' : k < n := by
        have := (List.getElem?_eq_some_iff.1 hk).1
        simp at this; omega
      rw [List.getElem?_take_of_lt hk'] at hk
      have := hcell k (by omega)
      rw [add_plain, List.getD_eq_getElem?_getD, hk] at this
      exact this
end

/-- A sum modulo 2^64. -/
def sumU (s : Int) (l : List Int) : Int := l.foldl (fun a n => IntKind.u64.wrap (a + n)) s
theorem sumU_take (s : Int) (l : List Int) (k : Nat) (hk : k < l.length) : sumU s (l.take (k + 1)) = IntKind.u64.wrap (sumU s (l.take k) + l[k]) := by
  unfold sumU
  rw [List.take_succ_eq_append_getElem hk, List.foldl_append]
  rfl
theorem sumU_perm (s : Int) {l l' : List Int} (h : l.Perm l') : sumU s l = sumU s l' := by
  unfold sumU
  exact h.foldl_eq' (fun x _ y _ z => by simp only [IntKind.wrap_u64]; omega) s
/-- The numbers the other way round, from a place on. -/
def turned (l : List Int) (t : Nat) : List Int := l.reverse.drop (l.length - t % l.length) ++ l.reverse.take (l.length - t % l.length)
theorem turned_perm (l : List Int) (t : Nat) : (turned l t).Perm l := by
  unfold turned
  exact (List.perm_append_comm.trans (by rw [List.take_append_drop])).trans (List.reverse_perm l)
theorem turned_len (l : List Int) (t : Nat) : (turned l t).length = l.length := (turned_perm l t).length_eq
theorem turned_at (l : List Int) (t k : Nat) (hk : k < l.length) : (turned l t)[k]? = l[(l.length - 1 - k + t) % l.length]? := by
  have ht : t % l.length < l.length := Nat.mod_lt _ (by omega)
  have hmod : (l.length - 1 - k + t) % l.length = (l.length - 1 - k + t % l.length) % l.length := by
    rw [Nat.add_mod, Nat.add_mod (l.length - 1 - k) (t % l.length), Nat.mod_mod]
  unfold turned
  rw [hmod]
  generalize t % l.length = u at *
  by_cases hku : k < u
  · rw [List.getElem?_append_left (by simp; omega), List.getElem?_drop, List.getElem?_reverse (by omega)]
    congr 1
    rw [show l.length - 1 - k + u = l.length + (u - 1 - k) by omega, Nat.add_mod_left, Nat.mod_eq_of_lt (by omega)]
    omega
  · rw [List.getElem?_append_right (by simp; omega)]
    simp only [List.length_drop, List.length_reverse]
    rw [List.getElem?_take_of_lt (by omega), List.getElem?_reverse (by omega)]
    congr 1
    rw [Nat.mod_eq_of_lt (by omega)]
    omega

end Go.Proofs.Ytkinnhdagdkhcaa
