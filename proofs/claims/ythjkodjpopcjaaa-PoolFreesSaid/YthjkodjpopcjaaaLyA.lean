/- Layer 7 (lay), plain mathematics: where each thing stands. -/

namespace Go.Proofs.Ythjkodjpopcjaaa

structure CfgD where
  t : Int
  b : Int
  wr : Int
  f : Int
  first : Int
  last : Int
namespace CfgD
def lim (c : CfgD) : Int := c.t * (c.wr + 1)
def tw (c : CfgD) : Int := c.t * (c.wr + 3)
def cap (c : CfgD) : Int := c.tw + 3 * c.lim + 2
def str (c : CfgD) : Int := c.cap + 8
def ts (c : CfgD) : Int := c.t * c.str
def ans (c : CfgD) : Int := 1 + c.ts
def root (c : CfgD) : Int := c.ans + c.t * 3
def life (c : CfgD) : Int := c.root + 16
def top (c : CfgD) : Int := c.life + c.b
def stack (c : CfgD) : Int := c.top + 1
def limp (c : CfgD) : Int := c.stack + c.b
def limbo (c : CfgD) : Int := c.limp + 1
def word (c : CfgD) : Int := c.limbo + c.lim
def size (c : CfgD) : Int := c.word + c.b * 8

/-- May the numbers be? -/
structure Ok (c : CfgD) : Prop where
  t1 : 1 ≤ c.t
  t8 : c.t ≤ 8
  b1 : 1 ≤ c.b
  b64 : c.b ≤ 64
  w0 : 0 ≤ c.wr
  w64 : c.wr ≤ 64
  f1 : 1 ≤ c.f
  f1000 : c.f ≤ 1000
  fl : c.first ≤ c.last
  l47 : c.last ≤ 140737488355328
instance (c : CfgD) : Decidable c.Ok :=
  decidable_of_iff ((1 ≤ c.t ∧ c.t ≤ 8) ∧ (1 ≤ c.b ∧ c.b ≤ 64) ∧ (0 ≤ c.wr ∧ c.wr ≤ 64) ∧ (1 ≤ c.f ∧ c.f ≤ 1000) ∧ c.first ≤ c.last ∧ c.last ≤ 140737488355328)
    ⟨fun ⟨⟨a, b⟩, ⟨d, e⟩, ⟨f, g⟩, ⟨h, i⟩, j, k⟩ => ⟨a, b, d, e, f, g, h, i, j, k⟩, fun h => ⟨⟨h.t1, h.t8⟩, ⟨h.b1, h.b64⟩, ⟨h.w0, h.w64⟩, ⟨h.f1, h.f1000⟩, h.fl, h.l47⟩⟩

def beg (c : CfgD) : Nat → Int
  | 0 => 0 | 1 => 1 | 2 => 2 | 3 => 6 | 4 => 7 | 5 => 8 | 6 => 9 | 7 => c.ans | 8 => c.ans + 1 | 9 => c.ans + 2 | 10 => c.root
  | 11 => c.life | 12 => c.top | 13 => c.stack | 14 => c.limp | 15 => c.limbo | _ => c.word
def things (c : CfgD) : Nat → Int
  | 0 => 1 | 12 => 1 | 14 => 1 | 1 => c.t | 2 => c.t | 3 => c.t | 4 => c.t | 5 => c.t | 6 => c.t | 7 => c.t | 8 => c.t | 9 => c.t
  | 10 => 16 | 11 => c.b | 13 => c.b | 15 => c.lim | 16 => c.b | _ => 0
def places (c : CfgD) : Nat → Int
  | 2 => 4 | 6 => c.cap | 16 => 8
  | 0 => 1 | 1 => 1 | 3 => 1 | 4 => 1 | 5 => 1 | 7 => 1 | 8 => 1 | 9 => 1 | 10 => 1 | 11 => 1 | 12 => 1 | 13 => 1 | 14 => 1 | 15 => 1 | _ => 0
def apart (c : CfgD) : Nat → Int
  | 1 => c.str | 2 => c.str | 3 => c.str | 4 => c.str | 5 => c.str | 6 => c.str | 7 => 3 | 8 => 3 | 9 => 3 | 16 => 8 | _ => 1

/-- The place 'at_' is the place j of the i-th thing of the kind k. -/
def Hit (c : CfgD) (p : Int) (k : Nat) (i j : Int) : Prop := k < 17 ∧ 0 ≤ i ∧ i < c.things k ∧ 0 ≤ j ∧ j < c.places k ∧ p = c.beg k + i * c.apart k + j
instance (c : CfgD) (p : Int) (k : Nat) (i j : Int) : Decidable (c.Hit p k i j) := by unfold Hit; exact inferInstance

/-- What stands at a place. -/
def what (c : CfgD) (p : Int) : Int × Int × Int :=
  if p < 0 then (-1, 0, 0) else if p < 1 then (0, 0, 0) else
  if p < c.ans then
    let i := (p - 1) / c.str
    let o := (p - 1) % c.str
    if o < 1 then (1, i, 0) else if o < 5 then (2, i, o - 1) else if o < 6 then (3, i, 0) else if o < 7 then (4, i, 0) else if o < 8 then (5, i, 0) else (6, i, o - 8)
  else if p < c.root then ((p - c.ans) % 3 + 7, (p - c.ans) / 3, 0)
  else if p < c.life then (10, p - c.root, 0) else if p < c.top then (11, p - c.life, 0) else if p < c.stack then (12, 0, 0)
  else if p < c.limp then (13, p - c.stack, 0) else if p < c.limbo then (14, 0, 0) else if p < c.word then (15, p - c.limbo, 0)
  else if p < c.size then (16, (p - c.word) / 8, (p - c.word) % 8) else (-1, 0, 0)

structure Bd (c : CfgD) : Prop where
  t1 : 1 ≤ c.t
  t8 : c.t ≤ 8
  b1 : 1 ≤ c.b
  b64 : c.b ≤ 64
  w0 : 0 ≤ c.wr
  w64 : c.wr ≤ 64
  l0 : 1 ≤ c.lim
  l1 : c.lim ≤ 520
  w3 : 3 ≤ c.tw
  w5 : c.tw ≤ 536
  s0 : 1 ≤ c.ts
  s1 : c.ts ≤ 16848
theorem Ok.bd {c : CfgD} (h : c.Ok) : c.Bd := by
  obtain ⟨t1, t8, b1, b64, w0, w64, -, -, -, -⟩ := h
  have l0 : 1 * 1 ≤ c.t * (c.wr + 1) := Int.mul_le_mul t1 (by omega) (by omega) (by omega)
  have l1 : c.t * (c.wr + 1) ≤ 8 * 65 := Int.mul_le_mul t8 (by omega) (by omega) (by omega)
  have w3 : 1 * 3 ≤ c.t * (c.wr + 3) := Int.mul_le_mul t1 (by omega) (by omega) (by omega)
  have w5 : c.t * (c.wr + 3) ≤ 8 * 67 := Int.mul_le_mul t8 (by omega) (by omega) (by omega)
  have s0 : 1 * 1 ≤ c.t * c.str := Int.mul_le_mul t1 (by simp only [str, cap, tw, lim]; omega) (by omega) (by omega)
  have s1 : c.t * c.str ≤ 8 * 2106 := Int.mul_le_mul t8 (by simp only [str, cap, tw, lim]; omega) (by simp only [str, cap, tw, lim]; omega) (by omega)
  exact ⟨t1, t8, b1, b64, w0, w64, l0, l1, w3, w5, s0, s1⟩

theorem row_lt {i t S : Int} (h0 : 0 ≤ i) (h : i < t) (hS : 0 ≤ S) : 0 ≤ i * S ∧ i * S + S ≤ t * S := by
  have h1 := Int.mul_nonneg h0 hS
  have h2 : (i + 1) * S ≤ t * S := Int.mul_le_mul_of_nonneg_right (by omega) hS
  rw [Int.add_mul] at h2
  omega
theorem dm {i o S p : Int} (hp : p = i * S + o) (h0 : 0 ≤ o) (h1 : o < S) : p / S = i ∧ p % S = o := by
  subst hp
  have hS : S ≠ 0 := by omega
  constructor
  · rw [Int.add_comm, Int.add_mul_ediv_right _ _ hS, Int.ediv_eq_zero_of_lt h0 h1]; omega
  · rw [Int.add_comm, Int.add_mul_emod_self_right, Int.emod_eq_of_lt h0 h1]

theorem what_thread {c : CfgD} (h : c.Bd) {p i o : Int} (hp : p = 1 + i * c.str + o) (h0 : 0 ≤ i) (h1 : i < c.t) (o0 : 0 ≤ o) (o1 : o < c.str) :
    c.what p = if o < 1 then (1, i, 0) else if o < 5 then (2, i, o - 1) else if o < 6 then (3, i, 0) else if o < 7 then (4, i, 0) else if o < 8 then (5, i, 0) else (6, i, o - 8) := by
  obtain ⟨r0, r1⟩ := row_lt h0 h1 (show 0 ≤ c.str by omega)
  obtain ⟨d, m⟩ := dm (p := p - 1) (i := i) (o := o) (S := c.str) (by omega) o0 o1
  unfold what
  rw [if_neg (by omega), if_neg (by omega), if_pos (show p < c.ans by unfold ans ts; omega), d, m]

theorem what_hit {c : CfgD} (h : c.Bd) {p : Int} {k : Nat} {i j : Int} (hh : c.Hit p k i j) : c.what p = ((k : Int), i, j) ∧ 0 ≤ p ∧ p < c.size := by
  obtain ⟨hk, i0, i1, j0, j1, hp⟩ := hh
  obtain ⟨t1, t8, b1, b64, w0, w64, l0, l1, w3, w5, s0, s1⟩ := h
  have hS : c.str = c.cap + 8 := rfl
  have hC : c.cap = c.tw + 3 * c.lim + 2 := rfl
  have th : ∀ o, 0 ≤ o → o < c.str → i < c.t → p = 1 + i * c.str + o → (c.what p = if o < 1 then (1, i, 0) else if o < 5 then (2, i, o - 1) else if o < 6 then (3, i, 0) else if o < 7 then (4, i, 0) else if o < 8 then (5, i, 0) else (6, i, o - 8)) ∧ 0 ≤ p ∧ p < c.size := fun o o0 o1 it e => by
    refine ⟨what_thread ⟨t1, t8, b1, b64, w0, w64, l0, l1, w3, w5, s0, s1⟩ e i0 it o0 o1, ?_, ?_⟩
    all_goals
      obtain ⟨r0, r1⟩ := row_lt i0 it (show 0 ≤ c.str by omega)
      simp only [size, word, limbo, limp, stack, top, life, root, ans, ts] at *
      omega
  have an : ∀ q : Int, 0 ≤ q → q < 3 → i < c.t → p = c.ans + i * 3 + q → c.what p = (q + 7, i, 0) ∧ 0 ≤ p ∧ p < c.size := fun q q0 q1 it e => by
    have hA : 0 < c.ans := by unfold ans; omega
    have hR : c.root = c.ans + c.t * 3 := rfl
    refine ⟨?_, by omega, by simp only [size, word, limbo, limp, stack, top, life, root]; omega⟩
    unfold what
    rw [if_neg (by omega), if_neg (by omega), if_neg (by omega), if_pos (by omega)]
    exact Prod.ext (by simp only; omega) (Prod.ext (by simp only; omega) rfl)
  have hA : 0 < c.ans := by unfold ans; omega
  have hR : c.root = c.ans + c.t * 3 := rfl
  have hL : c.life = c.root + 16 := rfl
  have hT : c.top = c.life + c.b := rfl
  have hSt : c.stack = c.top + 1 := rfl
  have hLp : c.limp = c.stack + c.b := rfl
  have hLb : c.limbo = c.limp + 1 := rfl
  have hW : c.word = c.limbo + c.lim := rfl
  have hZ : c.size = c.word + c.b * 8 := rfl
  match k, hk with
  | 0, _ => simp only [things, places, beg, apart] at *; refine ⟨?_, by omega, by omega⟩; unfold what; rw [if_neg (by omega), if_pos (by omega)]; exact Prod.ext rfl (Prod.ext (by simp only; omega) (by simp only; omega))
  | 1, _ =>
    simp only [things, places, beg, apart] at *
    obtain ⟨a, b⟩ := th 0 (by omega) (by omega) i1 (by omega)
    refine ⟨?_, b⟩
    rw [a, if_pos (by omega)]; exact Prod.ext rfl (Prod.ext rfl (by simp only; omega))
  | 2, _ =>
    simp only [things, places, beg, apart] at *
    obtain ⟨a, b⟩ := th (j + 1) (by omega) (by omega) i1 (by omega)
    refine ⟨?_, b⟩
    rw [a, if_neg (by omega), if_pos (by omega)]; exact Prod.ext rfl (Prod.ext rfl (by simp only; omega))
  | 3, _ =>
    simp only [things, places, beg, apart] at *
    obtain ⟨a, b⟩ := th 5 (by omega) (by omega) i1 (by omega)
    refine ⟨?_, b⟩
    rw [a, if_neg (by omega), if_neg (by omega), if_pos (by omega)]; exact Prod.ext rfl (Prod.ext rfl (by simp only; omega))
  | 4, _ =>
    simp only [things, places, beg, apart] at *
    obtain ⟨a, b⟩ := th 6 (by omega) (by omega) i1 (by omega)
    refine ⟨?_, b⟩
    rw [a, if_neg (by omega), if_neg (by omega), if_neg (by omega), if_pos (by omega)]; exact Prod.ext rfl (Prod.ext rfl (by simp only; omega))
  | 5, _ =>
    simp only [things, places, beg, apart] at *
    obtain ⟨a, b⟩ := th 7 (by omega) (by omega) i1 (by omega)
    refine ⟨?_, b⟩
    rw [a, if_neg (by omega), if_neg (by omega), if_neg (by omega), if_neg (by omega), if_pos (by omega)]; exact Prod.ext rfl (Prod.ext rfl (by simp only; omega))
  | 6, _ =>
    simp only [things, places, beg, apart] at *
    obtain ⟨a, b⟩ := th (j + 8) (by omega) (by omega) i1 (by omega)
    refine ⟨?_, b⟩
    rw [a, if_neg (by omega), if_neg (by omega), if_neg (by omega), if_neg (by omega), if_neg (by omega)]; exact Prod.ext rfl (Prod.ext rfl (by simp only; omega))
  | 7, _ =>
    simp only [things, places, beg, apart] at *
    obtain ⟨a, b⟩ := an 0 (by omega) (by omega) i1 (by omega)
    exact ⟨by rw [a]; exact Prod.ext rfl (Prod.ext rfl (by simp only; omega)), b⟩
  | 8, _ =>
    simp only [things, places, beg, apart] at *
    obtain ⟨a, b⟩ := an 1 (by omega) (by omega) i1 (by omega)
    exact ⟨by rw [a]; exact Prod.ext rfl (Prod.ext rfl (by simp only; omega)), b⟩
  | 9, _ =>
    simp only [things, places, beg, apart] at *
    obtain ⟨a, b⟩ := an 2 (by omega) (by omega) i1 (by omega)
    exact ⟨by rw [a]; exact Prod.ext rfl (Prod.ext rfl (by simp only; omega)), b⟩
  | 10, _ => simp only [things, places, beg, apart] at *; refine ⟨?_, by omega, by omega⟩; unfold what; (repeat (first | rw [if_neg (by omega)] | rw [if_pos (by omega)])); exact Prod.ext rfl (Prod.ext (by simp only; omega) (by simp only; omega))
  | 11, _ => simp only [things, places, beg, apart] at *; refine ⟨?_, by omega, by omega⟩; unfold what; (repeat (first | rw [if_neg (by omega)] | rw [if_pos (by omega)])); exact Prod.ext rfl (Prod.ext (by simp only; omega) (by simp only; omega))
  | 12, _ => simp only [things, places, beg, apart] at *; refine ⟨?_, by omega, by omega⟩; unfold what; (repeat (first | rw [if_neg (by omega)] | rw [if_pos (by omega)])); exact Prod.ext rfl (Prod.ext (by simp only; omega) (by simp only; omega))
  | 13, _ => simp only [things, places, beg, apart] at *; refine ⟨?_, by omega, by omega⟩; unfold what; (repeat (first | rw [if_neg (by omega)] | rw [if_pos (by omega)])); exact Prod.ext rfl (Prod.ext (by simp only; omega) (by simp only; omega))
  | 14, _ => simp only [things, places, beg, apart] at *; refine ⟨?_, by omega, by omega⟩; unfold what; (repeat (first | rw [if_neg (by omega)] | rw [if_pos (by omega)])); exact Prod.ext rfl (Prod.ext (by simp only; omega) (by simp only; omega))
  | 15, _ => simp only [things, places, beg, apart] at *; refine ⟨?_, by omega, by omega⟩; unfold what; (repeat (first | rw [if_neg (by omega)] | rw [if_pos (by omega)])); exact Prod.ext rfl (Prod.ext (by simp only; omega) (by simp only; omega))
  | 16, _ => simp only [things, places, beg, apart] at *; refine ⟨?_, by omega, by omega⟩; unfold what; (repeat (first | rw [if_neg (by omega)] | rw [if_pos (by omega)])); exact Prod.ext rfl (Prod.ext (by simp only; omega) (by simp only; omega))
  | n + 17, hn => omega

/-- Each place is one of some thing. -/
theorem hit_what {c : CfgD} (h : c.Bd) {p : Int} (h0 : 0 ≤ p) (h1 : p < c.size) : ∃ k i j, c.what p = (((k : Nat) : Int), i, j) ∧ c.Hit p k i j := by
  suffices ∃ (k : Nat) (i j : Int), c.Hit p k i j by
    obtain ⟨k, i, j, hh⟩ := this
    exact ⟨k, i, j, (what_hit h hh).1, hh⟩
  obtain ⟨t1, t8, b1, b64, w0, w64, l0, l1, w3, w5, s0, s1⟩ := h
  have hA : c.ans = 1 + c.t * c.str := rfl
  have hR : c.root = c.ans + c.t * 3 := rfl
  have hL : c.life = c.root + 16 := rfl
  have hT : c.top = c.life + c.b := rfl
  have hSt : c.stack = c.top + 1 := rfl
  have hLp : c.limp = c.stack + c.b := rfl
  have hLb : c.limbo = c.limp + 1 := rfl
  have hW : c.word = c.limbo + c.lim := rfl
  have hZ : c.size = c.word + c.b * 8 := rfl
  have hS : c.str = c.cap + 8 := rfl
  have hC : c.cap = c.tw + 3 * c.lim + 2 := rfl
  by_cases g0 : p < 1
  · exact ⟨0, 0, 0, by decide, by omega, by simp only [things]; omega, by omega, by simp only [places]; omega, by simp only [beg, apart]; omega⟩
  by_cases g1 : p < c.ans
  · have e := Int.mul_ediv_add_emod (p - 1) c.str
    have o0 := Int.emod_nonneg (p - 1) (show c.str ≠ 0 by omega)
    have o1 := Int.emod_lt_of_pos (p - 1) (show 0 < c.str by omega)
    have q0 : 0 ≤ (p - 1) / c.str := Int.ediv_nonneg (by omega) (by omega)
    have q1 : (p - 1) / c.str < c.t := Int.ediv_lt_of_lt_mul (by omega) (by omega)
    rw [Int.mul_comm] at e
    generalize (p - 1) / c.str = i at *
    generalize (p - 1) % c.str = o at *
    by_cases a1 : o < 1
    · exact ⟨1, i, 0, by decide, q0, q1, by omega, by simp only [places]; omega, by simp only [beg, apart]; omega⟩
    by_cases a2 : o < 5
    · exact ⟨2, i, o - 1, by decide, q0, q1, by omega, by simp only [places]; omega, by simp only [beg, apart]; omega⟩
    by_cases a3 : o < 6
    · exact ⟨3, i, 0, by decide, q0, q1, by omega, by simp only [places]; omega, by simp only [beg, apart]; omega⟩
    by_cases a4 : o < 7
    · exact ⟨4, i, 0, by decide, q0, q1, by omega, by simp only [places]; omega, by simp only [beg, apart]; omega⟩
    by_cases a5 : o < 8
    · exact ⟨5, i, 0, by decide, q0, q1, by omega, by simp only [places]; omega, by simp only [beg, apart]; omega⟩
    · exact ⟨6, i, o - 8, by decide, q0, q1, by omega, by simp only [places]; omega, by simp only [beg, apart]; omega⟩
  by_cases g2 : p < c.root
  · rcases (by omega : (p - c.ans) % 3 = 0 ∨ (p - c.ans) % 3 = 1 ∨ (p - c.ans) % 3 = 2) with a | a | a
    · exact ⟨7, (p - c.ans) / 3, 0, by decide, by omega, by simp only [things]; omega, by omega, by simp only [places]; omega, by simp only [beg, apart]; omega⟩
    · exact ⟨8, (p - c.ans) / 3, 0, by decide, by omega, by simp only [things]; omega, by omega, by simp only [places]; omega, by simp only [beg, apart]; omega⟩
    · exact ⟨9, (p - c.ans) / 3, 0, by decide, by omega, by simp only [things]; omega, by omega, by simp only [places]; omega, by simp only [beg, apart]; omega⟩
  by_cases g3 : p < c.life
  · exact ⟨10, p - c.root, 0, by decide, by omega, by simp only [things]; omega, by omega, by simp only [places]; omega, by simp only [beg, apart]; omega⟩
  by_cases g4 : p < c.top
  · exact ⟨11, p - c.life, 0, by decide, by omega, by simp only [things]; omega, by omega, by simp only [places]; omega, by simp only [beg, apart]; omega⟩
  by_cases g5 : p < c.stack
  · exact ⟨12, 0, 0, by decide, by omega, by simp only [things]; omega, by omega, by simp only [places]; omega, by simp only [beg, apart]; omega⟩
  by_cases g6 : p < c.limp
  · exact ⟨13, p - c.stack, 0, by decide, by omega, by simp only [things]; omega, by omega, by simp only [places]; omega, by simp only [beg, apart]; omega⟩
  by_cases g7 : p < c.limbo
  · exact ⟨14, 0, 0, by decide, by omega, by simp only [things]; omega, by omega, by simp only [places]; omega, by simp only [beg, apart]; omega⟩
  by_cases g8 : p < c.word
  · exact ⟨15, p - c.limbo, 0, by decide, by omega, by simp only [things]; omega, by omega, by simp only [places]; omega, by simp only [beg, apart]; omega⟩
  · exact ⟨16, (p - c.word) / 8, (p - c.word) % 8, by decide, by omega, by simp only [things]; omega, by omega, by simp only [places]; omega, by simp only [beg, apart]; omega⟩
theorem what_out {c : CfgD} (h : c.Bd) {p : Int} (h1 : p < 0 ∨ c.size ≤ p) : c.what p = (-1, 0, 0) := by
  obtain ⟨t1, t8, b1, b64, w0, w64, l0, l1, w3, w5, s0, s1⟩ := h
  have hA : c.ans = 1 + c.ts := rfl
  have hR : c.root = c.ans + c.t * 3 := rfl
  have hL : c.life = c.root + 16 := rfl
  have hT : c.top = c.life + c.b := rfl
  have hSt : c.stack = c.top + 1 := rfl
  have hLp : c.limp = c.stack + c.b := rfl
  have hLb : c.limbo = c.limp + 1 := rfl
  have hW : c.word = c.limbo + c.lim := rfl
  have hZ : c.size = c.word + c.b * 8 := rfl
  unfold what
  rcases h1 with h1 | h1
  · rw [if_pos h1]
  · repeat (rw [if_neg (by omega)])
theorem hit_one {c : CfgD} (h : c.Bd) {p : Int} {k k' : Nat} {i i' j j' : Int} (a : c.Hit p k i j) (b : c.Hit p k' i' j') : k = k' ∧ i = i' ∧ j = j' := by
  have e := (what_hit h a).1.symm.trans (what_hit h b).1
  injection e with e1 e2
  injection e2 with e2 e3
  exact ⟨by omega, e2, e3⟩

/-- The shapes' sizes. -/
theorem shape_bd {c : CfgD} (h : c.Bd) (k : Nat) (hk : k < 17) : 1 ≤ c.things k ∧ c.things k ≤ 520 ∧ 1 ≤ c.places k ∧ c.places k ≤ c.apart k ∧ c.apart k ≤ 2106 ∧ 0 ≤ c.beg k ∧ c.beg k ≤ 20000 := by
  obtain ⟨t1, t8, b1, b64, w0, w64, l0, l1, w3, w5, s0, s1⟩ := h
  have hA : c.ans = 1 + c.ts := rfl
  have hR : c.root = c.ans + c.t * 3 := rfl
  have hL : c.life = c.root + 16 := rfl
  have hT : c.top = c.life + c.b := rfl
  have hSt : c.stack = c.top + 1 := rfl
  have hLp : c.limp = c.stack + c.b := rfl
  have hLb : c.limbo = c.limp + 1 := rfl
  have hW : c.word = c.limbo + c.lim := rfl
  have hS : c.str = c.cap + 8 := rfl
  have hC : c.cap = c.tw + 3 * c.lim + 2 := rfl
  match k, hk with
  | 0, _ | 1, _ | 2, _ | 3, _ | 4, _ | 5, _ | 6, _ | 7, _ | 8, _ | 9, _ | 10, _ | 11, _ | 12, _ | 13, _ | 14, _ | 15, _ | 16, _ =>
    simp only [things, places, beg, apart]; omega
  | n + 17, hn => omega
/-- What the code's search asks of one kind. -/
theorem hit_iff {c : CfgD} (h : c.Bd) {p : Int} {k : Nat} (hk : k < 17) : (∃ i j, c.Hit p k i j) ↔ c.beg k ≤ p ∧ (p - c.beg k) / c.apart k < c.things k ∧ (p - c.beg k) % c.apart k < c.places k := by
  obtain ⟨t0, -, p0, pa, -, -, -⟩ := shape_bd h k hk
  constructor
  · rintro ⟨i, j, -, i0, i1, j0, j1, hp⟩
    obtain ⟨d, m⟩ := dm (p := p - c.beg k) (i := i) (o := j) (S := c.apart k) (by omega) j0 (by omega)
    have := Int.mul_nonneg i0 (show 0 ≤ c.apart k by omega)
    rw [d, m]
    exact ⟨by omega, i1, j1⟩
  · rintro ⟨a, b, d⟩
    have e := Int.mul_ediv_add_emod (p - c.beg k) (c.apart k)
    rw [Int.mul_comm] at e
    exact ⟨_, _, hk, Int.ediv_nonneg (by omega) (by omega), b, Int.emod_nonneg _ (by omega), d, by omega⟩
theorem hit_what_at {c : CfgD} (h : c.Bd) {p : Int} {k : Nat} (hk : k < 17) (hh : c.beg k ≤ p ∧ (p - c.beg k) / c.apart k < c.things k ∧ (p - c.beg k) % c.apart k < c.places k) :
    c.what p = ((k : Int), (p - c.beg k) / c.apart k, (p - c.beg k) % c.apart k) := by
  obtain ⟨i, j, hit⟩ := (hit_iff h hk).2 hh
  obtain ⟨t0, -, p0, pa, -, -, -⟩ := shape_bd h k hk
  obtain ⟨d, m⟩ := dm (p := p - c.beg k) (i := i) (o := j) (S := c.apart k) (by have := hit.2.2.2.2.2; omega) hit.2.2.2.1 (by have := hit.2.2.2.2.1; omega)
  rw [d, m, (what_hit h hit).1]

/-- Where a thing stands. -/
def at_ (c : CfgD) (kind i k : Int) : Int :=
  if 0 ≤ kind ∧ kind < 17 ∧ 0 ≤ i ∧ i < c.things kind.toNat ∧ 0 ≤ k ∧ k < c.places kind.toNat then c.beg kind.toNat + i * c.apart kind.toNat + k else -1
theorem at_hit {c : CfgD} (h : c.Bd) {kind i k : Int} (hne : c.at_ kind i k ≠ -1) : 0 ≤ kind ∧ c.Hit (c.at_ kind i k) kind.toNat i k ∧ 0 ≤ c.at_ kind i k ∧ c.at_ kind i k < c.size := by
  unfold at_ at hne ⊢
  by_cases g : 0 ≤ kind ∧ kind < 17 ∧ 0 ≤ i ∧ i < c.things kind.toNat ∧ 0 ≤ k ∧ k < c.places kind.toNat
  · rw [if_pos g]
    obtain ⟨a, b, d, e, f, g⟩ := g
    have hh : c.Hit (c.beg kind.toNat + i * c.apart kind.toNat + k) kind.toNat i k := ⟨by omega, d, e, f, g, rfl⟩
    exact ⟨a, hh, (what_hit h hh).2⟩
  · rw [if_neg g] at hne
    exact absurd rfl hne
theorem at_of_hit {c : CfgD} {p : Int} {k : Nat} {i j : Int} (hh : c.Hit p k i j) : c.at_ k i j = p := by
  obtain ⟨a, b, d, e, f, g⟩ := hh
  unfold at_
  rw [if_pos ⟨by omega, by omega, b, by simpa using d, e, by simpa using f⟩, Int.toNat_natCast, g]
end CfgD
end Go.Proofs.Ythjkodjpopcjaaa
