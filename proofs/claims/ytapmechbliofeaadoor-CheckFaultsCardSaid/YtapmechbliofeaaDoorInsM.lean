/- Instructions and bytes as plain data. -/
import Derived.Test.YtapmechbliofeaaDoorProg
import Derived.WalkKit
namespace Go.Proofs.YtapmechbliofeaaDoor
open Go.RowKit

/-- An instruction: its kind, three registers, a number. -/
structure InsD where
  op : Int
  a : Int
  b : Int
  c : Int
  imm : Int
deriving DecidableEq
def InsD.L (d : InsD) : List Value := [.int .i64 d.op, .int .i64 d.a, .int .i64 d.b, .int .i64 d.c, .int .u64 d.imm]
def insV (d : InsD) : Value := .agg #[.int .i64 d.op, .int .i64 d.a, .int .i64 d.b, .int .i64 d.c, .int .u64 d.imm]
def InsD.zero : InsD := ⟨0, 0, 0, 0, 0⟩

/-- How many registers a kind has, and whether it has a number. -/
def regs (op : Int) : Int :=
  if (2 ≤ op ∧ op ≤ 7) ∨ op = 12 ∨ op = 14 then 3 else if op = 1 ∨ (9 ≤ op ∧ op ≤ 11) ∨ op = 13 then 2 else if op = 17 ∨ op = 21 ∨ op < 0 ∨ 21 < op then 0 else 1
def immB (op : Int) : Bool := decide (op = 0 ∨ op = 8 ∨ op = 11 ∨ op = 13 ∨ (17 ≤ op ∧ op ≤ 19) ∨ op = 21)
def kindB (op : Int) : Bool := decide (0 ≤ op ∧ op < 22)
def fitsB (r : Int) (u : Bool) : Bool := if u then decide (0 ≤ r ∧ r < 16) else decide (r = 0)
def plainB (d : InsD) : Bool := kindB d.op && (fitsB d.a (decide (0 < regs d.op)) && (fitsB d.b (decide (1 < regs d.op)) && (fitsB d.c (decide (2 < regs d.op)) && (immB d.op || decide (d.imm = 0)))))

theorem regs_range (op : Int) : 0 ≤ regs op ∧ regs op ≤ 3 := by
  unfold regs
  split
  · omega
  · split
    · omega
    · split <;> omega
theorem regs_out (op : Int) (h : ¬ (0 ≤ op ∧ op < 22)) : regs op = 0 := by
  unfold regs
  rw [if_neg (by omega), if_neg (by omega), if_pos (by omega)]
theorem immB_out (op : Int) (h : ¬ (0 ≤ op ∧ op < 22)) : immB op = false := by
  unfold immB
  rw [decide_eq_false_iff_not]
  omega

/-- What a plain one's parts are. -/
theorem plain_bounds {d : InsD} (h : plainB d = true) : (0 ≤ d.op ∧ d.op < 22) ∧ (0 ≤ d.a ∧ d.a < 16) ∧ (0 ≤ d.b ∧ d.b < 16) ∧ (0 ≤ d.c ∧ d.c < 16) := by
  unfold plainB kindB fitsB at h
  simp only [Bool.and_eq_true, decide_eq_true_eq] at h
  obtain ⟨h0, h1, h2, h3, _⟩ := h
  refine ⟨h0, ?_, ?_, ?_⟩
  · split at h1 <;> simp only [decide_eq_true_eq] at h1 <;> omega
  · split at h2 <;> simp only [decide_eq_true_eq] at h2 <;> omega
  · split at h3 <;> simp only [decide_eq_true_eq] at h3 <;> omega

/-- A kind's name, and its fields' letters. -/
def nmS (op : Nat) : List UInt8 :=
  match op with
  | 0 => [115, 101, 116] | 1 => [109, 111, 118, 101] | 2 => [112, 108, 117, 115] | 3 => [109, 105, 110, 117, 115]
  | 4 => [116, 105, 109, 101, 115] | 5 => [109, 111, 100, 117, 108, 111] | 6 => [101, 113, 117, 97, 108] | 7 => [108, 101, 115, 115]
  | 8 => [97, 114, 103] | 9 => [114, 111, 111, 116] | 10 => [112, 117, 116, 114, 111, 111, 116] | 11 => [114, 101, 97, 100]
  | 12 => [114, 101, 97, 100, 97, 116] | 13 => [119, 114, 105, 116, 101] | 14 => [119, 114, 105, 116, 101, 97, 116] | 15 => [110, 101, 119]
  | 16 => [102, 114, 101, 101] | 17 => [103, 111] | 18 => [122, 101, 114, 111] | 19 => [98, 97, 99, 107]
  | 20 => [114, 101, 116, 117, 114, 110] | 21 => [97, 98, 111, 114, 116] | _ => []
def flS (op : Nat) : List UInt8 :=
  match op with
  | 0 => [97, 105] | 1 => [97, 98] | 2 => [97, 98, 99] | 3 => [97, 98, 99] | 4 => [97, 98, 99] | 5 => [97, 98, 99] | 6 => [97, 98, 99] | 7 => [97, 98, 99]
  | 8 => [97, 105] | 9 => [97, 98] | 10 => [97, 98] | 11 => [97, 98, 105] | 12 => [97, 98, 99] | 13 => [97, 98, 105] | 14 => [97, 98, 99] | 15 => [97]
  | 16 => [97] | 17 => [105] | 18 => [97, 105] | 19 => [97, 105] | 20 => [97] | 21 => [105] | _ => []

/-- The first bytes of a number, and an instruction's twelve. -/
def immL (imm : Int) (j : Nat) : List Int := (List.range j).map fun t => imm / 2 ^ (8 * t) % 256
theorem immL_succ (imm : Int) (j : Nat) : immL imm (j + 1) = immL imm j ++ [imm / 2 ^ (8 * j) % 256] := by
  unfold immL
  rw [List.range_succ, List.map_append]
  rfl
theorem immL_length (imm : Int) (j : Nat) : (immL imm j).length = j := by simp [immL]
def bytesOf (d : InsD) : List Int := [d.op, d.a, d.b, d.c] ++ immL d.imm 8
def bytesAll (l : List InsD) : List Int := l.flatMap bytesOf
theorem bytesOf_length (d : InsD) : (bytesOf d).length = 12 := by simp [bytesOf, immL_length]
theorem bytesAll_length (l : List InsD) : (bytesAll l).length = 12 * l.length := by
  unfold bytesAll
  induction l with
  | nil => rfl
  | cons d l ih => rw [List.flatMap_cons, List.length_append, ih, bytesOf_length, List.length_cons]; omega

/-- Bytes as values. -/
def bv (l : List Int) : List Value := l.map (Value.int .u8)
theorem bv_length (l : List Int) : (bv l).length = l.length := List.length_map ..
theorem bv_append (a b : List Int) : bv (a ++ b) = bv a ++ bv b := List.map_append
theorem bv_one (l : List Int) : ∀ u ∈ bv l, u.oneCell' = true := by
  intro u hu
  obtain ⟨x, _, rfl⟩ := List.mem_map.1 hu
  rfl

end Go.Proofs.YtapmechbliofeaaDoor
