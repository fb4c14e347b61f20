/- Law 10: rows of noughts; the pools of the laws that need no document. -/
import Derived.Test.YthjkodjpopcjaaaPoL
import Derived.Test.YthjkodjpopcjaaaPoM
namespace Go.Proofs.Ythjkodjpopcjaaa
open Go.RowKit Go.Maps
attribute [local go_sem ↓] loadMap_eq

def zerosA (n : Nat) : Array Value := (u64L (List.replicate n 0)).toArray
theorem zeros_made (n : Nat) : madeCells (Value.int .u64 0).cells (n * 1) = zerosA n := by
  rw [Nat.mul_one]
  apply Array.ext
  · rw [size_madeCells]; simp [zerosA, u64L]
  · intro i h1 h2
    rw [size_madeCells] at h1
    simp [madeCells, zerosA, u64L, Value.cells, Nat.mod_one]
theorem run_make_u64 (n : Nat) (hn : n ≤ 1000) (W : World) : (Instr.makeSlice 63 (.int .i64 (n : Int)) (.int .i64 (n : Int))).run Try.prog W = .ok (.slice (some ⟨W.heap.size, 0, none⟩) n n) (W.alloc (.cells (zerosA n) 22)) := by
  obtain ⟨j0, hj0, jz0, jz1, jz2⟩ := info_parts' infoU64
  have h := run_make (P := Try.prog) W 63 22 j0 _ Try.underlying63 hj0 jz0 .i64 .i64 (n : Int) (n : Int) (by omega) (by omega) (by rw [jz2]; omega) (by omega)
  have e : (n : Int).toNat = n := by omega
  rw [e, jz1, zeros_made] at h
  exact h
theorem own_zeros (w : World) (n : Nat) (hn : n ≤ 1000) : (w.alloc (.cells (zerosA n) 22)).ownsRow 0 22 1 (.slice (some ⟨w.heap.size, 0, none⟩) n n) n (u64L (List.replicate n 0)) := by
  have := World.ownsRow_lit (base := 0) (e := 22) (size := 1) w (zerosA n) n (Nat.zero_le _) (by unfold maxLen; omega) (by simp [zerosA, u64L])
  simpa [zerosA] using this
/-- What was read of noughts in slots, and none in limbo. -/
def zP (c : CfgD) (n : Nat) (t : Int) : PoD := doneP (List.replicate n 0) [] (min t c.b) 0 3
theorem read_zeros {c : CfgD} {n : Nat} (hn : (n : Int) = c.t) (h1 : 1 ≤ c.t) (hl : 0 ≤ c.lim) (t : Int) : readG c (p0 5) ((List.replicate n 0 ++ [t, 0]).map outO) 0 = (zP c n t, n + 2) := by
  have := read_all (c := c) (S := List.replicate n 0) (D := []) (t := t) (by simpa using hn) h1 (by simpa using hl)
  simpa [zP] using this
theorem u64_row {w : World} {base n : Nat} {v : Value} {t : Int} (h : w.ownsRow base 22 1 v (n + 2) (u64L (List.replicate n 0) ++ [.int .u64 t, .int .u64 0])) :
    ∃ A c, v = .slice A (n + 2) c ∧ SlAt w A 1 ((List.replicate n 0 ++ [t, 0]).map fun x => [.int .u64 x]) := by
  have e : u64L (List.replicate n 0) ++ [.int .u64 t, .int .u64 0] = u64L (List.replicate n 0 ++ [t, 0]) := by simp [u64L]
  have hl : (List.replicate n (0 : Int) ++ [t, 0]).length = n + 2 := by simp
  rw [e, ← hl] at h
  have := own_u64s h
  rwa [hl] at this
theorem zeros_bd {n : Nat} {t : Int} (ht : 0 ≤ t ∧ t ≤ 18446744073709551615) : ∀ v ∈ List.replicate n (0 : Int) ++ [t, 0], 0 ≤ v ∧ v ≤ 18446744073709551615 := fun v hv => by
  simp at hv
  rcases hv with ⟨_, rfl⟩ | rfl | rfl
  · omega
  · exact ht
  · omega
end Go.Proofs.Ythjkodjpopcjaaa
