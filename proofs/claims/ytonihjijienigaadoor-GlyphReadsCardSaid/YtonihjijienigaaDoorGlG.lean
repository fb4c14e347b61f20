/- Layer 2 (glyph): rows of tokens in memory. -/
import Derived.Test.YtonihjijienigaaDoorGlF
import Derived.Test.YtonihjijienigaaDoorGlC
import Derived.Maps.AppendAt
import Derived.Deep.AppendLies
import Derived.LoopTactic
import Derived.Laws.MakeOwn
namespace Go.Proofs.YtonihjijienigaaDoor
open Go.RowKit

def Tok.L (t : Tok) : List Value := [.int .i64 t.kind, .string t.text, .int .u64 t.num, .int .i64 t.at_, .int .i64 t.line]
def flatT (l : List Tok) : List Value := l.flatMap Tok.L
theorem flatT_nil : flatT [] = [] := rfl
theorem flatT_append (a b : List Tok) : flatT (a ++ b) = flatT a ++ flatT b := List.flatMap_append
theorem flatT_one (d : Tok) : flatT [d] = d.L := by simp [flatT]
theorem flatT_length (l : List Tok) : (flatT l).length = l.length * 5 := by
  unfold flatT
  induction l with
  | nil => rfl
  | cons d l ih => rw [List.flatMap_cons, List.length_append, ih, List.length_cons]; simp [Tok.L]; omega
theorem flatT_cell (l : List Tok) : ∀ (k : Nat) (d : Tok), l[k]? = some d → ∀ j, j < 5 → (flatT l)[k * 5 + j]? = d.L[j]? := by
  induction l with
  | nil => intro k d h; simp at h
  | cons e l ih =>
    intro k d h j hj
    have he : e.L.length = 5 := rfl
    have hc : flatT (e :: l) = e.L ++ flatT l := by simp [flatT]
    rw [hc]
    cases k with
    | zero =>
      simp at h
      subst h
      rw [List.getElem?_append_left (by omega)]
      simp
    | succ k =>
      rw [List.getElem?_append_right (by omega), he, show (k + 1) * 5 + j - 5 = k * 5 + j by omega]
      exact ih k d (by simpa using h) j hj
theorem flatT_one' (l : List Tok) : ∀ u ∈ flatT l, u.oneCell' = true := by
  intro u hu
  obtain ⟨d, _, h⟩ := List.mem_flatMap.1 hu
  simp only [Tok.L, List.mem_cons, List.not_mem_nil, or_false] at h
  rcases h with rfl | rfl | rfl | rfl | rfl <;> rfl

/-- A slice of tokens reads as a list. -/
def TokAt (w : World) (A : Option Addr) (l : List Tok) : Prop :=
  0 < l.length → ∃ b off, A = some ⟨b, off, none⟩ ∧ b < w.heap.size ∧ ∀ (k : Nat) (s : Tok), l[k]? = some s → ∀ j u, s.L[j]? = some u → w.cell? ⟨b, off + k * 5 + j, none⟩ = some u
theorem TokAt.nil (w : World) (A : Option Addr) : TokAt w A [] := fun h => absurd h (by simp)
theorem TokAt.on {w w' : World} {A : Option Addr} {l : List Tok} (h : TokAt w A l) (k : Below w.heap.size w w') : TokAt w' A l := fun h0 => by
  obtain ⟨b, off, hA, hb, hc⟩ := h h0
  exact ⟨b, off, hA, Nat.lt_of_lt_of_le hb k.size, fun k' s hs j u hu => (k.cell (p := ⟨b, off + k' * 5 + j, none⟩) hb).trans (hc k' s hs j u hu)⟩
theorem tok_cells {w : World} {A : Option Addr} {l : List Tok} (h : TokAt w A l) {k : Nat} (hk : k < l.length) : ∃ b off, A = some ⟨b, off, none⟩ ∧ b < w.heap.size ∧
    w.cell? ⟨b, off + k * 5, none⟩ = some (.int .i64 l[k].kind) ∧ w.cell? ⟨b, off + k * 5 + 1, none⟩ = some (.string l[k].text) ∧ w.cell? ⟨b, off + k * 5 + 2, none⟩ = some (.int .u64 l[k].num) ∧
    w.cell? ⟨b, off + k * 5 + 3, none⟩ = some (.int .i64 l[k].at_) ∧ w.cell? ⟨b, off + k * 5 + 4, none⟩ = some (.int .i64 l[k].line) := by
  obtain ⟨b, off, hA, hb, hc⟩ := h (by omega)
  have hk' := hc k l[k] (List.getElem?_eq_getElem hk)
  exact ⟨b, off, hA, hb, hk' 0 _ rfl, hk' 1 _ rfl, hk' 2 _ rfl, hk' 3 _ rfl, hk' 4 _ rfl⟩

theorem addr_add (g j : Nat) : (⟨g, 0, none⟩ : Addr).add j = ⟨g, j, none⟩ := by
  unfold Addr.add
  split <;> simp_all
theorem TokAt.of_own {w : World} {A : Option Addr} {n c base : Nat} {t : TypeId} {l : List Tok} (h : w.ownsRow base t 5 (.slice A n c) n (flatT l)) (hn : l.length = n) : TokAt w A l := fun h0 => by
  obtain ⟨g, cap, hv, _, hlt⟩ := h.form (by omega)
  have hA : A = some ⟨g, 0, none⟩ := by injection hv
  subst hA
  refine ⟨g, 0, rfl, hlt, fun k s hs j u hu => ?_⟩
  have hj : j < 5 := by
    have := (List.getElem?_eq_some_iff.1 hu).1
    simpa [Tok.L] using this
  have := h.cells (g := g) rfl (k * 5 + j) u (by rw [flatT_cell l k s hs j hj]; exact hu)
  rw [addr_add] at this
  simpa using this
/-- A slice of tokens that this call has laid. -/
structure TokOwn (w : World) (t : TypeId) (v : Value) (l : List Tok) : Prop where
  own : w.ownsRow 0 t 5 v l.length (flatT l)

theorem own_blk_ne {w : World} {base : Nat} {e : TypeId} {size n g : Nat} {v : Value} {xs : List Value} {t : TypeId} {cs : Array Value} (h : w.ownsRow base e size v n xs) (hg : Blk w g t cs) (hne : e ≠ t) : some g ≠ v.ownBlock := by
  rcases h.2 with ⟨rfl, _⟩ | ⟨g', cap, cur, rfl, _, hh, _⟩
  · simp [Value.ownBlock]
  · intro he
    have : g' = g := by simpa [Value.ownBlock] using he.symm
    subst this
    exact Blk.ne_ (t := e) hh hg hne rfl
theorem info_parts' {i : Option TypeInfo} {z : Value} {s b : Nat} (h : i.map (fun i => (i.zero, i.size, i.bytes)) = some (some z, s, b)) : ∃ i0, i = some i0 ∧ i0.zero = some z ∧ i0.size = s ∧ i0.bytes = b := by
  cases i with
  | none => simp at h
  | some i =>
    simp at h
    exact ⟨i, rfl, h.1, h.2.1, h.2.2⟩
theorem infoTok5 : (Tryd.prog.info? 39).map (fun i => (i.zero, i.size, i.bytes)) = some (some (.agg #[.int .i64 0, .string ⟨#[]⟩, .int .u64 0, .int .i64 0, .int .i64 0]), 5, 48) := by kernel_rfl
theorem infoRef5 : (Tryd.prog.info? 44).map (fun i => (i.zero, i.size, i.bytes)) = some (some (.agg #[.int .i64 0, .string ⟨#[]⟩, .int .u64 0, .int .i64 0, .int .i64 0]), 5, 48) := by kernel_rfl
theorem news_at (w : World) (cs : Array Value) (t : TypeId) (n : Nat) (hn : n = w.heap.size) : ∀ j u, cs.toList[j]? = some u → (w.alloc (.cells cs t)).cell? ((⟨n, 0, none⟩ : Addr).add j) = some u := by
  subst hn
  intro j u hu
  rw [addr_add, (Blk.new w t cs).cell]
  simpa using hu

/-! ## What a text is read as -/
def pieceB (s : ByteArray) (x : Nat × Nat) : ByteArray := s.extract x.1 x.2
def tokAt (s : ByteArray) (x : Nat × Nat) (line : Nat) : Tok := { (readP (pieceB s x)).1 with at_ := x.1, line := line }
def errAt (s : ByteArray) (n : Nat) (x : Nat × Nat) : Int := if (readP (pieceB s x)).2 = 0 ∧ n = 16384 then 3 else (readP (pieceB s x)).2
def lexR (s : ByteArray) : List (Nat × Nat) → List Tok → Nat → List Tok × Int × Int
  | [], acc, _ => (acc, 0, 0)
  | x :: r, acc, line => if errAt s acc.length x ≠ 0 then ([], (x.1 : Int), errAt s acc.length x)
      else lexR s r (acc ++ [tokAt s x line]) (if (readP (pieceB s x)).1.kind = 3 then line + 1 else line)
def lexP (s : ByteArray) : List Tok × Int × Int :=
  if 65536 < s.size then ([], 0, 2) else lexR s (mach s (s.size + 1) 0 (-1) false false) [] 0

end Go.Proofs.YtonihjijienigaaDoor
