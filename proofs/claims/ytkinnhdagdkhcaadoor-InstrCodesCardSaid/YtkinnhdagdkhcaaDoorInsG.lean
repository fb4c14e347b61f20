/- Numbers of bytes: plain mathematics. -/
import Derived.Test.YtkinnhdagdkhcaaDoorInsM
namespace Go.Proofs.YtkinnhdagdkhcaaDoor
open Go.RowKit

/-- The number of some bytes, the lowest first; the instruction of twelve. -/
def getL : List Int → Int
  | [] => 0
  | x :: l => x + 256 * getL l
def insOf (l : List Int) : InsD := ⟨l.getD 0 0, l.getD 1 0, l.getD 2 0, l.getD 3 0, getL ((l.drop 4).take 8)⟩
def ByteL (l : List Int) : Prop := ∀ x ∈ l, 0 ≤ x ∧ x < 256
theorem ByteL.take {l : List Int} (h : ByteL l) (n : Nat) : ByteL (l.take n) := fun x hx => h x (List.mem_of_mem_take hx)
theorem ByteL.drop {l : List Int} (h : ByteL l) (n : Nat) : ByteL (l.drop n) := fun x hx => h x (List.mem_of_mem_drop hx)

theorem getL_bound : ∀ (l : List Int), ByteL l → 0 ≤ getL l ∧ getL l < 256 ^ l.length
  | [], _ => by simp [getL]
  | x :: l, h => by
    obtain ⟨h0, h1⟩ := h x (List.mem_cons_self ..)
    obtain ⟨g0, g1⟩ := getL_bound l (fun y hy => h y (List.mem_cons_of_mem _ hy))
    simp only [getL, List.length_cons, Int.pow_succ]
    constructor <;> omega
theorem getL_snoc (x : Int) : ∀ (l : List Int), getL (l ++ [x]) = getL l + x * 256 ^ l.length
  | [] => by simp [getL]
  | y :: l => by
    simp only [List.cons_append, getL, List.length_cons, Int.pow_succ]
    rw [getL_snoc x l]
    have e : 256 * (x * 256 ^ l.length) = x * (256 ^ l.length * 256) := by rw [Int.mul_comm (256 ^ l.length) 256, ← Int.mul_assoc, ← Int.mul_assoc, Int.mul_comm 256 x]
    rw [Int.mul_add, e, Int.add_assoc]
theorem pow_256 (j : Nat) : (256 : Int) ^ j = 2 ^ (8 * j) := by
  rw [Int.pow_mul]
  rfl

theorem or_low (G y j : Nat) (hG : G < 2 ^ (8 * j)) (hy : y < 256) (hj : j < 8) :
    bits BinOp.or IntKind.u64 (G : Int) (IntKind.u64.wrap (IntKind.u64.wrap (y : Int) * 2 ^ (8 * (j : Int)).toNat)) = (G : Int) + (y : Int) * 2 ^ (8 * j) := by
  have e8 : (8 * (j : Int)).toNat = 8 * j := by omega
  have hp : 2 ^ (8 * j) * 256 ≤ 2 ^ 64 := by
    have : 2 ^ (8 * j) * 2 ^ 8 ≤ 2 ^ 64 := by rw [← Nat.pow_add]; exact Nat.pow_le_pow_right (by omega) (by omega)
    simpa using this
  have hY : y * 2 ^ (8 * j) + 2 ^ (8 * j) ≤ 2 ^ 64 := by
    have : (y + 1) * 2 ^ (8 * j) ≤ 256 * 2 ^ (8 * j) := Nat.mul_le_mul_right _ (by omega)
    rw [Nat.add_mul] at this
    omega
  have hw : IntKind.u64.wrap (y : Int) = y := by rw [IntKind.wrap_u64]; omega
  have hc : (y : Int) * 2 ^ (8 * j) = ((y * 2 ^ (8 * j) : Nat) : Int) := by push_cast; rfl
  have hor : y * 2 ^ (8 * j) + G = y * 2 ^ (8 * j) ||| G := by
    have := Nat.shiftLeft_add_eq_or_of_lt hG y
    rwa [Nat.shiftLeft_eq] at this
  rw [e8, hw, hc]
  generalize y * 2 ^ (8 * j) = Y at *
  have hp0 : 0 < 2 ^ (8 * j) := Nat.two_pow_pos _
  generalize 2 ^ (8 * j) = p at *
  have hYw : IntKind.u64.wrap (Y : Int) = Y := by rw [IntKind.wrap_u64]; omega
  rw [hYw]
  have e : bits BinOp.or IntKind.u64 (G : Int) (Y : Int) = IntKind.u64.wrap ((BitVec.ofInt 64 (G : Int) ||| BitVec.ofInt 64 (Y : Int)).toNat : Int) := rfl
  rw [e, BitVec.toNat_or, BitVec.toNat_ofInt, BitVec.toNat_ofInt, IntKind.wrap_u64]
  have g1 : ((G : Int) % ((2 ^ 64 : Nat) : Int)).toNat = G := by omega
  have g2 : ((Y : Int) % ((2 ^ 64 : Nat) : Int)).toNat = Y := by omega
  rw [g1, g2, Nat.or_comm, ← hor]
  omega

theorem or_getL (l : List Int) (j : Nat) (y : Int) (hl : ByteL l) (hj : j < 8) (hy : l[j]? = some y) :
    bits BinOp.or IntKind.u64 (getL (l.take j)) (IntKind.u64.wrap (IntKind.u64.wrap y * 2 ^ (8 * (j : Int)).toNat)) = getL (l.take (j + 1)) := by
  obtain ⟨hlt, he⟩ := List.getElem?_eq_some_iff.1 hy
  have hlen : (l.take j).length = j := by simp; omega
  obtain ⟨g0, g1⟩ := getL_bound (l.take j) (hl.take j)
  obtain ⟨y0, y1⟩ := hl y (List.mem_of_getElem? hy)
  rw [List.take_succ_eq_append_getElem hlt, he, getL_snoc, hlen, pow_256]
  rw [hlen, pow_256] at g1
  obtain ⟨G, hG⟩ : ∃ G : Nat, getL (l.take j) = G := ⟨(getL (l.take j)).toNat, by omega⟩
  obtain ⟨Y, rfl⟩ : ∃ Y : Nat, y = Y := ⟨y.toNat, by omega⟩
  rw [hG] at g1 ⊢
  exact or_low G Y j (by exact_mod_cast g1) (by omega) hj

theorem or_count (x y : Int) (x0 : 0 ≤ x) (x1 : x < 256) (y0 : 0 ≤ y) (y1 : y < 256) : bits BinOp.or IntKind.i64 x (y * 256) = x + 256 * y := by
  obtain ⟨G, rfl⟩ : ∃ G : Nat, x = G := ⟨x.toNat, by omega⟩
  obtain ⟨Y, rfl⟩ : ∃ Y : Nat, y = Y := ⟨y.toNat, by omega⟩
  have hor := Nat.shiftLeft_add_eq_or_of_lt (i := 8) (b := G) (by omega) Y
  rw [Nat.shiftLeft_eq] at hor
  have e : bits BinOp.or IntKind.i64 (G : Int) ((Y : Int) * 256) = IntKind.i64.wrap ((BitVec.ofInt 64 (G : Int) ||| BitVec.ofInt 64 ((Y : Int) * 256)).toNat : Int) := rfl
  rw [e, BitVec.toNat_or, BitVec.toNat_ofInt, BitVec.toNat_ofInt, IntKind.wrap_i64]
  have g1 : ((G : Int) % ((2 ^ 64 : Nat) : Int)).toNat = G := by omega
  have g2 : (((Y : Int) * 256) % ((2 ^ 64 : Nat) : Int)).toNat = Y * 2 ^ 8 := by omega
  rw [g1, g2, Nat.or_comm, ← hor]
  omega

/-- A number's eight bytes tell it. -/
theorem getL_immL (imm : Int) (h0 : 0 ≤ imm) (h1 : imm < 18446744073709551616) : getL (immL imm 8) = imm := by
  simp [immL, List.range_succ, getL]
  omega
theorem immL_byte (imm : Int) (j : Nat) : ByteL (immL imm j) := by
  intro x hx
  obtain ⟨t, _, rfl⟩ := List.mem_map.1 hx
  omega
theorem immL_getL (l : List Int) (h : ByteL l) (h8 : l.length = 8) : immL (getL l) 8 = l := by
  match l, h8 with
  | [a, b, c, d, e, f, g, k], _ =>
    have ha := h a (by simp)
    have hb := h b (by simp)
    have hc := h c (by simp)
    have hd := h d (by simp)
    have he := h e (by simp)
    have hf := h f (by simp)
    have hg := h g (by simp)
    have hk := h k (by simp)
    simp [immL, List.range_succ, getL]
    refine ⟨?_, ?_, ?_, ?_, ?_, ?_, ?_, ?_⟩ <;> omega

end Go.Proofs.YtkinnhdagdkhcaaDoor
