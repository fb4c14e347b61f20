/- Layer 1 (cell): the memory as a whole; turn over a row; Do. -/
import Derived.Test.YtkinnhdagdkhcaaCellB
import Derived.Deep.RegionWith
import Derived.Deep.RegionLaw
import Derived.StillTailTactics
import Derived.Maps.AppendAt
import Derived.Deep.AppendLies
namespace Go.Proofs.Ytkinnhdagdkhcaa
open Go.RowKit

def flat : List (Int × Int) → List Value
  | [] => []
  | p :: r => .int .u64 p.1 :: .int .u64 p.2 :: flat r
theorem flat_length (cs : List (Int × Int)) : (flat cs).length = cs.length * 2 := by
  induction cs with
  | nil => rfl
  | cons p r ih => simp [flat, ih]; omega
theorem flat_fst (cs : List (Int × Int)) : ∀ (i : Nat) (p : Int × Int), cs[i]? = some p → (flat cs)[i * 2]? = some (.int .u64 p.1) := by
  induction cs with
  | nil => intro i p h; simp at h
  | cons c r ih =>
    intro i p h
    cases i with
    | zero => simp at h; subst h; rfl
    | succ i => simp at h; have := ih i p h; rw [Nat.succ_mul]; simpa [flat] using this
theorem flat_snd (cs : List (Int × Int)) : ∀ (i : Nat) (p : Int × Int), cs[i]? = some p → (flat cs)[i * 2 + 1]? = some (.int .u64 p.2) := by
  induction cs with
  | nil => intro i p h; simp at h
  | cons c r ih =>
    intro i p h
    cases i with
    | zero => simp at h; subst h; rfl
    | succ i => simp at h; have := ih i p h; rw [Nat.succ_mul]; simpa [flat] using this
theorem flat_set (cs : List (Int × Int)) : ∀ (i : Nat) (q : Int × Int), flat (cs.set i q) = ((flat cs).set (i * 2) (.int .u64 q.1)).set (i * 2 + 1) (.int .u64 q.2) := by
  induction cs with
  | nil => intro i q; simp [flat]
  | cons c r ih =>
    intro i q
    cases i with
    | zero => simp [flat]
    | succ i => rw [Nat.succ_mul]; simp [flat, ih]

/-- The block g is a row of cells of a memory. -/
def RowC (w : World) (g cap : Nat) (cs : List (Int × Int)) : Prop :=
  ∃ cur, Blk w g 35 cur ∧ cs.length ≤ cap ∧ cap ≤ maxLen ∧ cur.size = cap * 2 ∧ cur.toList.take (cs.length * 2) = flat cs

theorem RowC.at_ {cs : List (Int × Int)} {cur : Array Value} (h : cur.toList.take (cs.length * 2) = flat cs) {i : Nat} {p : Int × Int} (hi : cs[i]? = some p) :
    cur[i * 2]? = some (.int .u64 p.1) ∧ cur[i * 2 + 1]? = some (.int .u64 p.2) := by
  have hl : i < cs.length := (List.getElem?_eq_some_iff.1 hi).1
  have h1 := flat_fst cs i p hi
  have h2 := flat_snd cs i p hi
  rw [← h, List.getElem?_take_of_lt (by omega)] at h1 h2
  exact ⟨by simpa using h1, by simpa using h2⟩

theorem RowC.set_ {cs : List (Int × Int)} {cur : Array Value} (h : cur.toList.take (cs.length * 2) = flat cs) {i : Nat} (_hi : i < cs.length) (q : Int × Int) :
    ((cur.setIfInBounds (i * 2) (.int .u64 q.1)).setIfInBounds (i * 2 + 1) (.int .u64 q.2)).toList.take ((cs.set i q).length * 2) = flat (cs.set i q) := by
  rw [flat_set, ← h]
  simp [List.take_set]

/-- What a step makes of a cell, and whether it is done. -/
def becomes (p : Int × Int) (k : Int) (o n : Int × Int) : (Int × Int) × Bool :=
  if k = 1 then (n, true) else if k = 2 then (if p = o then (n, true) else (p, false)) else if k = 3 then ((IntKind.u64.wrap (p.1 + n.1), p.2), true) else (p, true)

theorem set_same {cur : Array Value} {i : Nat} {v : Value} (h : cur[i]? = some v) : cur.setIfInBounds i v = cur := by
  obtain ⟨hi, rfl⟩ := Array.getElem?_eq_some_iff.1 h
  apply Array.ext
  · simp
  · intro j h1 h2
    by_cases hij : i = j
    · subst hij; simp
    · rw [Array.getElem_setIfInBounds_ne _ hij]
theorem setl_same {cs : List (Int × Int)} {i : Nat} {p : Int × Int} (h : cs[i]? = some p) : cs.set i p = cs := by
  obtain ⟨hi, rfl⟩ := List.getElem?_eq_some_iff.1 h
  exact List.set_getElem_self hi

theorem turn_calls (w : World) (g cap i : Nat) (cs : List (Int × Int)) (k a : Int) (o n p : Int × Int) (hr : RowC w g cap cs) (hi : cs[i]? = some p) (h0 : 0 ≤ k) (h3 : k ≤ 3) :
    Calls Try.prog 24 #[.pointer (some ⟨g, i * 2, none⟩), opV k a o n] w fun e w' => e = .returned (outV p (becomes p k o n).2) ∧ RowC w' g cap (cs.set i (becomes p k o n).1) ∧ Kept (fun k => k = g) w w' := by
  obtain ⟨cur, hb, hl, hm, hs, ht⟩ := hr
  obtain ⟨hc0, hc1⟩ := RowC.at_ ht hi
  have hlt : i < cs.length := (List.getElem?_eq_some_iff.1 hi).1
  have wr : ∀ (q : Int × Int) (w' : World), Turned w w' g 35 ((cur.setIfInBounds (i * 2) (.int .u64 q.1)).setIfInBounds (i * 2 + 1) (.int .u64 q.2)) → RowC w' g cap (cs.set i q) ∧ Kept (fun k => k = g) w w' := fun q w' h =>
    ⟨⟨_, h.1, by simpa using hl, hm, by simpa using hs, RowC.set_ ht hlt q⟩, h.2⟩
  have rd : ∀ (w' : World), Turned w w' g 35 cur → RowC w' g cap (cs.set i p) ∧ Kept (fun k => k = g) w w' := fun w' h =>
    ⟨by rw [setl_same hi]; exact ⟨cur, h.1, hl, hm, hs, ht⟩, h.2⟩
  rcases (by omega : k = 0 ∨ k = 1 ∨ k = 2 ∨ k = 3) with rfl | rfl | rfl | rfl
  · have hd0 := (hb.cell (i * 2)).trans hc0
    have hd1 := (hb.cell (i * 2 + 1)).trans hc1
    exact (turn_load w g i a o n p hb.lt hd0 hd1).mono fun e w' ⟨he, hw⟩ => ⟨he, rd w' ⟨hb.below hw hb.lt, (Kept.below hw).mono fun k hk hk' => absurd hk (by omega)⟩⟩
  · exact (turn_store w g i cur a o n p hb hc0 hc1).mono fun e w' ⟨he, hw⟩ => ⟨he, wr n w' hw⟩
  · by_cases hp : p = o
    · subst hp
      exact (turn_swap w g i cur a n p hb hc0 hc1).mono fun e w' ⟨he, hw⟩ => ⟨by simpa [becomes] using he, by simpa [becomes] using wr n w' hw⟩
    · exact (turn_swapno w g i cur a o n p hp hb hc0 hc1).mono fun e w' ⟨he, hw⟩ => ⟨by simpa [becomes, hp] using he, by simpa [becomes, hp] using rd w' hw⟩
  · refine (turn_add w g i cur a o n p hb hc0 hc1).mono fun e w' ⟨he, hw⟩ => ⟨by simpa [becomes] using he, ?_⟩
    have := wr (IntKind.u64.wrap (p.1 + n.1), p.2) w' (by
      simp only
      rw [set_same (v := .int .u64 p.2)]
      · exact hw
      · rw [Array.getElem?_setIfInBounds_ne (by omega)]; exact hc1)
    simpa [becomes] using this

/-- The memory at block b: its cells, how many steps each thread has done, its steps. -/
structure IsMem (w : World) (b g cap : Nat) (ev : Value) (cs : List (Int × Int)) (s : Fin 8 → Int) (es : List Value) (m : Nat) : Prop where
  blk : Blk w b 65 (memArr (.slice (some ⟨g, 0, none⟩) cs.length cap) ev s)
  row : RowC w g cap cs
  evs : w.ownsRow 0 57 10 ev m es

def eventL (who k i : Int) (o n p : Int × Int) (ok : Bool) : List Value :=
  [.int .i64 who, .int .i64 k, .int .i64 i, .int .u64 o.1, .int .u64 o.2, .int .u64 n.1, .int .u64 n.2, .int .u64 p.1, .int .u64 p.2, .bool ok]

theorem IsMem.keep {w w' : World} {b g cap : Nat} {ev : Value} {cs : List (Int × Int)} {s : Fin 8 → Int} {es : List Value} {m : Nat} {S : Nat → Prop} (h : IsMem w b g cap ev cs s es m) (hk : Kept S w w')
    (h1 : ¬ S b) (h2 : ¬ S g) (h3 : ∀ x, ev.ownBlock = some x → ¬ S x) : IsMem w' b g cap ev cs s es m :=
  ⟨hk.blk h.blk h1, by obtain ⟨cur, hb, r⟩ := h.row; exact ⟨cur, hk.blk hb h2, r⟩, hk.own h.evs h3⟩

end Go.Proofs.Ytkinnhdagdkhcaa
