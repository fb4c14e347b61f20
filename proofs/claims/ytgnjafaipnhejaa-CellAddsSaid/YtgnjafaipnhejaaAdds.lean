/- CellAdds: the walk of the law. -/
import Derived.Test.YtgnjafaipnhejaaCellU
import Derived.Test.YtgnjafaipnhejaaApart
namespace Go.Proofs.Ytgnjafaipnhejaa
open Go.RowKit

theorem and63_bound (x : Int) : ∃ t : Nat, t ≤ 63 ∧ bits BinOp.and IntKind.i64 x 63 = (t : Int) := by
  have h : (BitVec.ofInt 64 x &&& BitVec.ofInt 64 63).toNat ≤ 63 := by
    rw [BitVec.toNat_and]
    exact Nat.and_le_right
  have e : bits BinOp.and IntKind.i64 x 63 = IntKind.i64.wrap ((BitVec.ofInt 64 x &&& BitVec.ofInt 64 63).toNat : Int) := rfl
  refine ⟨_, h, ?_⟩
  rw [e, IntKind.wrap_i64]
  omega

theorem add0 (x y z : Int) (E : List EvD) (c2 who : Int) (h : 0 ≤ who ∧ who ≤ 7) : doStep [(x, c2), (y, c2)] E who 3 0 (0, 0) (z, 9) = ⟨[(IntKind.u64.wrap (x + z), c2), (y, c2)], E ++ [⟨who, 3, 0, (0, 0), (z, 9), (x, c2), true⟩], (x, c2), true, 0⟩ := by
  have h1 : ¬ (who < 0 ∨ 8 ≤ who) := by omega
  simp [doStep, doErr, becomes, h1]
theorem add1 (x y z : Int) (E : List EvD) (c2 who : Int) (h : 0 ≤ who ∧ who ≤ 7) : doStep [(x, c2), (y, c2)] E who 3 1 (0, 0) (z, 0) = ⟨[(x, c2), (IntKind.u64.wrap (y + z), c2)], E ++ [⟨who, 3, 1, (0, 0), (z, 0), (y, c2), true⟩], (y, c2), true, 0⟩ := by
  have h1 : ¬ (who < 0 ∨ 8 ≤ who) := by omega
  simp [doStep, doErr, becomes, h1]

/-- What holds at the head of the loop over numbers. -/
def AddsRel (w1 : World) (b g : Nat) (c : Int × Int) (l : List Int) (t : Nat) (s i : Value) (wr : World) : Prop :=
  ∃ (k : Nat) (ev : Value) (E : List EvD), k ≤ l.length ∧ i = .int .i64 k ∧ s = .int .u64 (sumU c.1 (l.take k)) ∧ E.length ≤ 2 * k ∧
    Inv w1 wr b g 2 ev [(sumU c.1 (l.take k), c.2), (sumU c.1 ((turned l t).take k), c.2)] E

set_option maxRecDepth 100000 in
set_option maxHeartbeats 4000000 in
theorem adds_walk (c : Int × Int) (A : Option Addr) (n cap : Nat) (l : List Int) (turn : Int) (w : World) (hn : l.length = n) (hmax : n ≤ maxLen) (hl : U64sAt w A l) (_hturn : Int64 turn) :
    Calls Try.prog 5 #[cellV c, .slice A n cap, .int .i64 turn] w fun e w' => e = .returned (.bool true) ∧ Below w.heap.size w w' := by
  unfold maxLen at hmax
  unfold cellV
  by_cases h40 : 40 < n
  · go_enter Try.func5, Try.ntmps5
    go_wp2_with fail
    refine (alive_calls _).mono ?_
    rintro e w1 ⟨rfl, K1⟩
    have L1 := ((Kept.refl (fun _ => False) w).alloc _).trans K1
    go_wp2_with fail
    go_ret
    exact ⟨rfl, L1.toBelow (Nat.le_refl _) (fun _ _ h => h)⟩
  have h40' : n ≤ 40 := by omega
  obtain ⟨t, ht63, ht⟩ := and63_bound turn
  clear h40
  have HN := Lib.hid hn
  have HL := Lib.hid hl
  clear hn hl
  go_enter Try.func5, Try.ntmps5
  go_wp2_with fail
  refine (alive_calls _).mono ?_
  rintro e w1 ⟨rfl, K1⟩
  have Bc : Blk w1 w.heap.size 35 #[.int .u64 c.1, .int .u64 c.2] := K1.blk (Blk.new _ _ _) (fun h => h)
  have L1 := ((Kept.refl (fun _ => False) w).alloc (.cells #[.int .u64 c.1, .int .u64 c.2] 35)).trans K1
  have xc0 : w1.cell? ⟨w.heap.size, 0, none⟩ = some (.int .u64 c.1) := Bc.cell 0
  have xc1 : w1.cell? ⟨w.heap.size, 1, none⟩ = some (.int .u64 c.2) := Bc.cell 1
  have HL1 := Lib.hid L1
  clear K1 Bc L1
  go_wp2_with fail
  refine (new_inv 2 (by omega) _).mono ?_
  rintro e w2 ⟨m, g, rfl, N2⟩
  have yc0 := N2.oldCell xc0
  have yc1 := N2.oldCell xc1
  go_wp2_with fail
  refine (set_inv N2 0 c (by simp)).mono ?_
  rintro e w3 ⟨rfl, N3, -⟩
  clear yc0 yc1 N2
  have yc0 := N3.oldCell xc0
  have yc1 := N3.oldCell xc1
  go_wp2_with fail
  refine (set_inv N3 1 c (by simp)).mono ?_
  rintro e w4 ⟨rfl, N4, -⟩
  simp only [List.replicate, List.set] at N4
  clear yc0 yc1 N3
  have yc0 := N4.oldCell xc0
  have yc1 := N4.oldCell xc1
  have HN4 := Lib.hid N4
  clear N4
  go_wp2_with fail
  clear yc0 yc1
  go_loopw [9, 39] (fun s i wr => AddsRel w1 m g c l t s i wr) (fun _ i _ => n - (intOf i).toNat)
  case atStart => exact ⟨0, .slice none 0 0, [], Nat.zero_le _, rfl, by simp [sumU], by simp, by simpa [sumU] using HN4.out⟩
  case round =>
    obtain ⟨k, ev, E, hk, rfl, rfl, hE, N5⟩ := hrel
    rename_i wr
    by_cases hlt : k < n
    · have hlt' : k < l.length := by have := HN.out; omega
      obtain ⟨ub, uo, hA, hub, hc⟩ := (HL.out.kept HL1.out) (by omega)
      subst hA
      have ck := N5.oldCell (hc k l[k] (List.getElem?_eq_getElem hlt'))
      have hb7 := and7_bound (k : Int)
      unfold and7 at hb7
      go_wp2_with fail
      have hidx : (n - 1 - k + t) % n < n := Nat.mod_lt _ (by omega)
      obtain ⟨v, hv⟩ : ∃ v, l[(n - 1 - k + t) % n]? = some v := ⟨_, List.getElem?_eq_getElem (by have := HN.out; omega)⟩
      have cv := hc _ v hv
      have hvt : (turned l t)[k]? = some v := by rw [turned_at l t k hlt', HN.out]; exact hv
      have hb1 : 0 ≤ ((n : Int) - 1 - (k : Int) + (t : Int)) % (n : Int) := Int.emod_nonneg _ (by omega)
      have hb2 : ((n : Int) - 1 - (k : Int) + (t : Int)) % (n : Int) < (n : Int) := Int.emod_lt_of_pos _ (by omega)
      have HVT := Lib.hid hvt
      have HCV := Lib.hid cv
      have HB7 := Lib.hid hb7
      have yc1 := N5.oldCell xc1
      clear hvt hv hc cv
      refine (do_inv N5 (bits BinOp.and IntKind.i64 (k : Int) 7) 3 0 (0, 0) (l[k], 9) (by omega) _ (add0 _ _ _ E c.2 _ HB7.out)).mono ?_
      rintro e w6 ⟨rfl, ev6, N6, K6⟩
      have cv6 := N6.oldCell HCV.out
      have lu6 : ub < w6.heap.size := Nat.lt_of_lt_of_le hub N6.kept.size
      simp only [outV] at *
      go_wp2_with fail
      have X6 := Blk.new w6 41 #[.int .u64 (sumU c.1 (l.take k)), .int .u64 c.2, .bool true]
      refine (do_inv (N6.alloc _) (bits BinOp.and IntKind.i64 (k : Int) 7) 3 1 (0, 0) (v, 0) (by simp; omega) _ (add1 _ _ _ _ c.2 _ HB7.out)).mono ?_
      rintro e w7 ⟨rfl, ev7, N7, K7⟩
      have X6a := (N6.alloc _).out K7 X6
      obtain ⟨a0, a1, a2⟩ := three (p := (sumU c.1 (l.take k), c.2)) X6a
      have l6 := X6a.lt
      have zc1 := N7.oldCell xc1
      have lc := World.block_lt_of_cell? w7 _ zc1
      have s1 := sumU_take c.1 l k hlt'
      have hvt := HVT.out
      obtain ⟨hkt, hvt'⟩ := List.getElem?_eq_some_iff.1 hvt
      have s2 := sumU_take c.1 (turned l t) k hkt
      rw [hvt'] at s2
      rw [← s1, ← s2] at N7
      have S1 := Lib.hid s1
      have HLT := Lib.hid hlt'
      have HKN := Lib.hid hlt
      have HN7 := Lib.hid N7
      clear s1 s2 hvt hvt' hkt N7 K7 X6 X6a cv6 lu6 ck hub yc1 N6
      simp only [outV] at *
      go_wp2_with fail
      exact ⟨⟨k + 1, ev7, _, HLT.out, rfl, by rw [S1.out], by simp; omega, HN7.out.alloc _⟩, by have := HKN.out; simp [intOf]; omega⟩
    · have hkn : k = n := by have := HN.out; omega
      subst hkn
      have hl := HN.out
      rw [List.take_of_length_le (by omega), List.take_of_length_le (by rw [turned_len]; omega), sumU_perm c.1 (turned_perm l t)] at N5
      rw [List.take_of_length_le (by omega)]
      generalize sumU c.1 l = s at *
      have HN5 := Lib.hid N5
      clear N5
      go_wp2_with fail
      refine (peek_inv HN5.out 0 (s, c.2) rfl).mono ?_
      rintro e w6 ⟨rfl, N6, -⟩
      simp only [cellV] at *
      have HN6 := Lib.hid N6
      clear N6
      go_wp2_with fail
      have X6 := Blk.new w6 35 #[.int .u64 s, .int .u64 c.2]
      refine (peek_inv (HN6.out.alloc _) 1 (s, c.2) rfl).mono ?_
      rintro e w7 ⟨rfl, N7, K7⟩
      have X6a := K7.blk X6 (fun h => h)
      have a0 : w7.cell? ⟨w6.heap.size, 0, none⟩ = some (.int .u64 s) := X6a.cell 0
      have a1 : w7.cell? ⟨w6.heap.size, 1, none⟩ = some (.int .u64 c.2) := X6a.cell 1
      have l6 := X6a.lt
      have zc1 := N7.oldCell xc1
      have lc := World.block_lt_of_cell? w7 _ zc1
      have HN7 := Lib.hid N7
      clear N7 K7 X6 X6a
      simp only [cellV] at *
      go_wp2_with fail
      go_ret
      exact ⟨rfl, ((HL1.out.trans HN7.out.kept).alloc _).toBelow (Nat.le_refl _) (fun _ _ h => h)⟩

end Go.Proofs.Ytgnjafaipnhejaa
