/- Rows of instructions and of bytes in memory. -/
import Derived.Test.YtapmechbliofeaaDoorInsC
import Derived.Test.YtapmechbliofeaaDoorRw
import Derived.Maps.AppendAt
import Derived.Deep.AppendLies
import Derived.LoopTactic
import Derived.Laws.MakeOwn
namespace Go.Proofs.YtapmechbliofeaaDoor
open Go.RowKit

def flatI (l : List InsD) : List Value := l.flatMap InsD.L
theorem flatI_nil : flatI [] = [] := rfl
theorem flatI_append (a b : List InsD) : flatI (a ++ b) = flatI a ++ flatI b := List.flatMap_append
theorem flatI_one (d : InsD) : flatI [d] = d.L := by simp [flatI]
theorem flatI_length (l : List InsD) : (flatI l).length = l.length * 5 := by
  unfold flatI
  induction l with
  | nil => rfl
  | cons d l ih => rw [List.flatMap_cons, List.length_append, ih, List.length_cons]; simp [InsD.L]; omega
theorem flatI_cell (l : List InsD) : ∀ (k : Nat) (d : InsD), l[k]? = some d → ∀ j, j < 5 → (flatI l)[k * 5 + j]? = d.L[j]? := by
  induction l with
  | nil => intro k d h; simp at h
  | cons e l ih =>
    intro k d h j hj
    have he : e.L.length = 5 := rfl
    have hc : flatI (e :: l) = e.L ++ flatI l := by simp [flatI]
    rw [hc]
    cases k with
    | zero =>
      simp at h
      subst h
      rw [List.getElem?_append_left (by omega)]
      simp
    | succ k =>
      rw [List.getElem?_append_right (by omega), he, show (k + 1) * 5 + j - 5 = k * 5 + j by omega]
      exact ih k d (by simpa using h) j hj
theorem flatI_one' (l : List InsD) : ∀ u ∈ flatI l, u.oneCell' = true := by
  intro u hu
  obtain ⟨d, _, h⟩ := List.mem_flatMap.1 hu
  simp only [InsD.L, List.mem_cons, List.not_mem_nil, or_false] at h
  rcases h with rfl | rfl | rfl | rfl | rfl <;> rfl

/-- A slice of instructions reads as a list; a slice of bytes. -/
def InsAt (w : World) (A : Option Addr) (l : List InsD) : Prop :=
  0 < l.length → ∃ b off, A = some ⟨b, off, none⟩ ∧ b < w.heap.size ∧ ∀ (k : Nat) (s : InsD), l[k]? = some s → ∀ j u, s.L[j]? = some u → w.cell? ⟨b, off + k * 5 + j, none⟩ = some u
def BytesAt (w : World) (A : Option Addr) (l : List Int) : Prop :=
  0 < l.length → ∃ b off, A = some ⟨b, off, none⟩ ∧ b < w.heap.size ∧ ∀ (k : Nat) (x : Int), l[k]? = some x → w.cell? ⟨b, off + k, none⟩ = some (.int .u8 x)
theorem InsAt.kept {w w' : World} {A : Option Addr} {l : List InsD} (h : InsAt w A l) (k : Kept (fun _ => False) w w') : InsAt w' A l := fun h0 => by
  obtain ⟨b, off, hA, hb, hc⟩ := h h0
  exact ⟨b, off, hA, Nat.lt_of_lt_of_le hb k.size, fun k' s hs j u hu => k.cell_some (fun h => h) (hc k' s hs j u hu)⟩
theorem BytesAt.kept {w w' : World} {A : Option Addr} {l : List Int} (h : BytesAt w A l) (k : Kept (fun _ => False) w w') : BytesAt w' A l := fun h0 => by
  obtain ⟨b, off, hA, hb, hc⟩ := h h0
  exact ⟨b, off, hA, Nat.lt_of_lt_of_le hb k.size, fun k' x hx => k.cell_some (fun h => h) (hc k' x hx)⟩
theorem ins_cells {w : World} {A : Option Addr} {l : List InsD} (h : InsAt w A l) {k : Nat} (hk : k < l.length) : ∃ b off, A = some ⟨b, off, none⟩ ∧ b < w.heap.size ∧
    w.cell? ⟨b, off + k * 5, none⟩ = some (.int .i64 l[k].op) ∧ w.cell? ⟨b, off + k * 5 + 1, none⟩ = some (.int .i64 l[k].a) ∧ w.cell? ⟨b, off + k * 5 + 2, none⟩ = some (.int .i64 l[k].b) ∧
    w.cell? ⟨b, off + k * 5 + 3, none⟩ = some (.int .i64 l[k].c) ∧ w.cell? ⟨b, off + k * 5 + 4, none⟩ = some (.int .u64 l[k].imm) := by
  obtain ⟨b, off, hA, hb, hc⟩ := h (by omega)
  have hk' := hc k l[k] (List.getElem?_eq_getElem hk)
  exact ⟨b, off, hA, hb, hk' 0 _ rfl, hk' 1 _ rfl, hk' 2 _ rfl, hk' 3 _ rfl, hk' 4 _ rfl⟩
theorem byte_cell {w : World} {A : Option Addr} {l : List Int} (h : BytesAt w A l) {k : Nat} (hk : k < l.length) : ∃ b off, A = some ⟨b, off, none⟩ ∧ b < w.heap.size ∧ w.cell? ⟨b, off + k, none⟩ = some (.int .u8 l[k]) := by
  obtain ⟨b, off, hA, hb, hc⟩ := h (by omega)
  exact ⟨b, off, hA, hb, hc k l[k] (List.getElem?_eq_getElem hk)⟩

theorem InsAt.of_own {w : World} {A : Option Addr} {n c base : Nat} {l : List InsD} (h : w.ownsRow base 38 5 (.slice A n c) n (flatI l)) (hn : l.length = n) : InsAt w A l := fun h0 => by
  obtain ⟨g, cap, hv, _, hlt⟩ := h.form (by omega)
  have hA : A = some ⟨g, 0, none⟩ := by injection hv
  subst hA
  refine ⟨g, 0, rfl, hlt, fun k s hs j u hu => ?_⟩
  have hj : j < 5 := by
    have := (List.getElem?_eq_some_iff.1 hu).1
    simpa [InsD.L] using this
  have := h.cells (g := g) rfl (k * 5 + j) u (by rw [flatI_cell l k s hs j hj]; exact hu)
  rw [addr_add] at this
  simpa using this
theorem BytesAt.of_own {w : World} {A : Option Addr} {n c base : Nat} {l : List Int} (h : w.ownsRow base 5 1 (.slice A n c) n (bv l)) (hn : l.length = n) : BytesAt w A l := fun h0 => by
  obtain ⟨g, cap, hv, _, hlt⟩ := h.form (by omega)
  have hA : A = some ⟨g, 0, none⟩ := by injection hv
  subst hA
  refine ⟨g, 0, rfl, hlt, fun k x hx => ?_⟩
  have := h.cells (g := g) rfl k (.int .u8 x) (by simp [bv, hx])
  rw [addr_add] at this
  simpa using this

theorem Kept.push {w W w3 : World} {row : Option Nat} (hK : Kept (fun _ => False) w W) (hg : W.grownBy w3 row) (hv : ∀ x, row = some x → w.heap.size ≤ x) : Kept (fun _ => False) w w3 :=
  ((hK.mono (T := fun k => w.heap.size ≤ k) (fun _ _ h => h.elim)).trans ((Kept.grown hg).mono (fun _ _ h => hv _ h.symm))).mono (fun k hk h => absurd h (by omega))
theorem fresh_push {w W : World} {v v' : Value} (hK : Kept (fun _ => False) w W) (hv : ∀ x, v.ownBlock = some x → w.heap.size ≤ x) (hat : v'.ownBlock = v.ownBlock ∨ v'.ownBlock = some W.heap.size) : ∀ x, v'.ownBlock = some x → w.heap.size ≤ x := by
  intro x hx
  rcases hat with h | h
  · exact hv x (h ▸ hx)
  · rw [h] at hx
    injection hx with hx
    have := hK.size
    omega

theorem infoU8 : (Tryd.prog.info? 5).map (fun i => (i.zero, i.size, i.bytes)) = some (some (.int .u8 0), 1, 1) := by kernel_rfl
theorem infoIns : (Tryd.prog.info? 38).map (fun i => (i.zero, i.size, i.bytes)) = some (some (.agg #[.int .i64 0, .int .i64 0, .int .i64 0, .int .i64 0, .int .u64 0]), 5, 40) := by kernel_rfl
end Go.Proofs.YtapmechbliofeaaDoor
