/- WsetFull's mathematics. -/
import Derived.Test.YthjkodjpopcjaaaWsX
namespace Go.Proofs.Ythjkodjpopcjaaa
open Go.RowKit Go.Maps

structure P1 (f s : Int) (k : Nat) (ps : List (Int × Int)) : Prop where
  len : ps.length = k
  ens : (ents ps).length = k
  none : ∀ j : Nat, k ≤ j → look (ents ps) (f + j * s) = none
  some : ∀ j : Nat, j < k → (look (ents ps) (f + j * s)).isSome = true
structure P2 (f s more : Int) (r k : Nat) (ps : List (Int × Int)) : Prop where
  len : ps.length = r + k
  ens : (ents ps).length = r
  none : look (ents ps) (f + r * s) = none
  some : ∀ j : Nat, j < r → (look (ents ps) (f + j * s)).isSome = true
  val : ∀ j : Nat, j < k → look (ents ps) (f + j * s) = Option.some (IntKind.u64.wrap (more + j))
theorem mul_ne {f s : Int} (hs : 1 ≤ s) {i j : Nat} (h : i ≠ j) : f + i * s ≠ f + j * s := by
  intro e
  have e' : (i : Int) * s = j * s := by omega
  have := Int.eq_of_mul_eq_mul_right (by omega : s ≠ 0) e'
  omega
theorem P1.zero (f s : Int) : P1 f s 0 [] := ⟨rfl, rfl, fun _ _ => rfl, fun _ h => by omega⟩
theorem P1.step {f s : Int} {k r : Nat} {ps : List (Int × Int)} (h : P1 f s k ps) (hs : 1 ≤ s) (hk : k < r) (v : Int) : putErr r ps (f + k * s) = 0 ∧ P1 f s (k + 1) (putS r ps (f + k * s, v)) := by
  have hf : fits r ps (f + k * s) = true := by unfold fits; rw [h.ens]; simp; omega
  have hp : putS r ps (f + k * s, v) = ps ++ [(f + k * s, v)] := by unfold putS; rw [if_pos hf]
  refine ⟨by unfold putErr; rw [if_pos hf], ?_⟩
  rw [hp]
  refine ⟨by rw [List.length_append, h.len]; rfl, ?_, ?_, ?_⟩
  · rw [ents_new (p := (f + k * s, v)) (idx_of_none (h.none k (Nat.le_refl _))), List.length_append, h.ens]; rfl
  · intro j hj
    rw [look_put, if_neg (mul_ne hs (by omega))]
    exact h.none j (by omega)
  · intro j hj
    rw [look_put]
    split
    · rfl
    · exact h.some j (by rcases Nat.lt_succ_iff_lt_or_eq.1 hj with h | h; exact h; subst h; exact absurd rfl ‹_›)
theorem P1.full {f s : Int} {r : Nat} {ps : List (Int × Int)} (h : P1 f s r ps) (v : Int) (more : Int) : putErr r ps (f + r * s) = 6 ∧ putS r ps (f + r * s, v) = ps ∧ P2 f s more r 0 ps := by
  have hf : fits r ps (f + r * s) = false := by unfold fits; rw [h.ens, h.none r (Nat.le_refl _)]; simp
  refine ⟨by unfold putErr; simp [hf], by unfold putS; simp [hf], ⟨h.len, h.ens, h.none r (Nat.le_refl _), h.some, fun _ h => by omega⟩⟩
theorem P2.step {f s more : Int} {k r : Nat} {ps : List (Int × Int)} (h : P2 f s more r k ps) (hs : 1 ≤ s) (hk : k < r) : putErr r ps (f + k * s) = 0 ∧ P2 f s more r (k + 1) (putS r ps (f + k * s, IntKind.u64.wrap (more + k))) := by
  have hsm := h.some k hk
  have hf : fits r ps (f + k * s) = true := by unfold fits; rw [hsm]; rfl
  have hp : putS r ps (f + k * s, IntKind.u64.wrap (more + k)) = ps ++ [(f + k * s, IntKind.u64.wrap (more + k))] := by unfold putS; rw [if_pos hf]
  obtain ⟨v0, hv0⟩ := Option.isSome_iff_exists.1 hsm
  obtain ⟨i, hi⟩ := idx_of_look hv0
  refine ⟨by unfold putErr; rw [if_pos hf], ?_⟩
  rw [hp]
  refine ⟨by rw [List.length_append, h.len]; simp; omega, ?_, ?_, ?_, ?_⟩
  · rw [ents_old (p := (f + k * s, _)) hi, List.length_set, h.ens]
  · rw [look_put, if_neg (mul_ne hs (by omega))]
    exact h.none
  · intro j hj
    rw [look_put]
    split
    · rfl
    · exact h.some j hj
  · intro j hj
    rw [look_put]
    by_cases hjk : j = k
    · subst hjk; rw [if_pos rfl]
    · rw [if_neg (mul_ne hs hjk)]; exact h.val j (by omega)
theorem P2.get {f s more : Int} {k r : Nat} {ps : List (Int × Int)} (h : P2 f s more r r ps) (hk : k < r) : getV ps (f + k * s) = .tuple #[.int .u64 (IntKind.u64.wrap (more + k)), .bool true] := by
  unfold getV; rw [h.val k hk]; rfl
theorem P2.getN {f s more : Int} {r : Nat} {ps : List (Int × Int)} (h : P2 f s more r r ps) : getV ps (f + r * s) = .tuple #[.int .u64 0, .bool false] := by
  unfold getV; rw [h.none]; rfl
theorem andB_bound (x : Int) (m : Nat) (hm : m ≤ 65535) : ∃ t : Nat, t ≤ m ∧ bits BinOp.and IntKind.i64 x m = (t : Int) := by
  have h : (BitVec.ofInt 64 x &&& BitVec.ofInt 64 m).toNat ≤ m := by
    rw [BitVec.toNat_and]
    refine Nat.le_trans Nat.and_le_right ?_
    simp
    omega
  have e : bits BinOp.and IntKind.i64 x m = IntKind.i64.wrap ((BitVec.ofInt 64 x &&& BitVec.ofInt 64 m).toNat : Int) := rfl
  refine ⟨_, h, ?_⟩
  rw [e, IntKind.wrap_i64]
  omega
end Go.Proofs.Ythjkodjpopcjaaa
