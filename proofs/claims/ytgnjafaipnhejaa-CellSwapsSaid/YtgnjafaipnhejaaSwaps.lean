/- CellSwaps: the walk of the law. -/
import Derived.Test.YtgnjafaipnhejaaCellJ
namespace Go.Proofs.Ytgnjafaipnhejaa
open Go.RowKit

set_option maxHeartbeats 4000000 in
theorem swaps_walk (c a b o : Int × Int) (w : World) : Calls Try.prog 4 #[cellV c, cellV a, cellV b, cellV o] w fun e w' => e = .returned (.bool true) ∧ Below w.heap.size w w' := by
  unfold cellV
  go_enter Try.func4, Try.ntmps4
  go_wp2_with fail
  refine (alive_calls _).mono ?_
  rintro e w1 ⟨rfl, K1⟩
  have Bc : Blk w1 w.heap.size 35 #[.int .u64 c.1, .int .u64 c.2] := K1.blk ((((Blk.new _ _ _).alloc _).alloc _).alloc _) (fun h => h)
  have Ba : Blk w1 (w.heap.size + 1) 35 #[.int .u64 a.1, .int .u64 a.2] := K1.blk (((Blk.new' _ _ _ _ (by simp)).alloc _).alloc _) (fun h => h)
  have Bb : Blk w1 (w.heap.size + 1 + 1) 35 #[.int .u64 b.1, .int .u64 b.2] := K1.blk ((Blk.new' _ _ _ _ (by simp)).alloc _) (fun h => h)
  have Bo : Blk w1 (w.heap.size + 1 + 1 + 1) 35 #[.int .u64 o.1, .int .u64 o.2] := K1.blk (Blk.new' _ _ _ _ (by simp)) (fun h => h)
  have L1 := ((((Kept.refl (fun _ => False) w).alloc (.cells #[.int .u64 c.1, .int .u64 c.2] 35)).alloc _).alloc _).alloc _ |>.trans K1
  clear K1
  have xc0 : w1.cell? ⟨w.heap.size, 0, none⟩ = some (.int .u64 c.1) := Bc.cell 0
  have xc1 : w1.cell? ⟨w.heap.size, 1, none⟩ = some (.int .u64 c.2) := Bc.cell 1
  have xa0 : w1.cell? ⟨w.heap.size + 1, 0, none⟩ = some (.int .u64 a.1) := Ba.cell 0
  have xa1 : w1.cell? ⟨w.heap.size + 1, 1, none⟩ = some (.int .u64 a.2) := Ba.cell 1
  have xb0 : w1.cell? ⟨w.heap.size + 1 + 1, 0, none⟩ = some (.int .u64 b.1) := Bb.cell 0
  have xb1 : w1.cell? ⟨w.heap.size + 1 + 1, 1, none⟩ = some (.int .u64 b.2) := Bb.cell 1
  have xo0 : w1.cell? ⟨w.heap.size + 1 + 1 + 1, 0, none⟩ = some (.int .u64 o.1) := Bo.cell 0
  have xo1 : w1.cell? ⟨w.heap.size + 1 + 1 + 1, 1, none⟩ = some (.int .u64 o.2) := Bo.cell 1
  clear Bc Ba Bb Bo
  go_wp2_with fail
  refine (new_inv 1 (by omega) _).mono ?_
  rintro e w2 ⟨m, g, rfl, N2⟩
  have yc0 := N2.oldCell xc0
  have yc1 := N2.oldCell xc1
  go_wp2_with fail
  refine (set_inv N2 0 c (by simp)).mono ?_
  rintro e w3 ⟨rfl, N3, -⟩
  simp only [List.replicate, List.set] at N3
  clear yc0 yc1 N2
  have yc0 := N3.oldCell xc0
  have yc1 := N3.oldCell xc1
  have ya0 := N3.oldCell xa0
  have ya1 := N3.oldCell xa1
  go_wp2_with fail
  refine (do_inv N3 0 2 0 c a (by simp) ⟨[a], [⟨0, 2, 0, c, a, c, true⟩], c, true, 0⟩ (by simp [doStep, doErr, becomes])).mono ?_
  rintro e w4 ⟨rfl, ev4, N4, -⟩
  clear yc0 yc1 ya0 ya1 N3
  have yc0 := N4.oldCell xc0
  have yc1 := N4.oldCell xc1
  have yb0 := N4.oldCell xb0
  have yb1 := N4.oldCell xb1
  have lc : w.heap.size < w4.heap.size := World.block_lt_of_cell? w4 _ yc0
  have lb : w.heap.size + 1 + 1 < w4.heap.size := World.block_lt_of_cell? w4 _ yb0
  simp only [outV] at *
  go_wp2_with fail
  have X4 := Blk.new w4 41 #[.int .u64 c.1, .int .u64 c.2, .bool true]
  obtain ⟨was, hwas⟩ : ∃ was, was = if a = c then b else a := ⟨_, rfl⟩
  refine (do_inv (N4.alloc _) 1 2 0 c b (by simp) ⟨[was], [⟨0, 2, 0, c, a, c, true⟩, ⟨1, 2, 0, c, b, a, cellEq a c⟩], a, cellEq a c, 0⟩ ?_).mono ?_
  · by_cases h : a = c
    · subst h
      simp [doStep, doErr, becomes, hwas, cellEq_self]
    · simp [doStep, doErr, becomes, hwas, h, cellEq_not h]
  clear hwas
  rintro e w5 ⟨rfl, ev5, N5, K5⟩
  have X4' := (N4.alloc _).out K5 X4
  clear yc0 yc1 yb0 yb1 lc lb X4 K5 N4
  have yc0 := N5.oldCell xc0
  have yc1 := N5.oldCell xc1
  have ya0 := N5.oldCell xa0
  have ya1 := N5.oldCell xa1
  have lc : w.heap.size < w5.heap.size := World.block_lt_of_cell? w5 _ yc0
  have la : w.heap.size + 1 < w5.heap.size := World.block_lt_of_cell? w5 _ ya0
  have l4 := X4'.lt
  have x40 : w5.cell? ⟨w4.heap.size, 0, none⟩ = some (.int .u64 c.1) := X4'.cell 0
  have x41 : w5.cell? ⟨w4.heap.size, 1, none⟩ = some (.int .u64 c.2) := X4'.cell 1
  have x42 : w5.cell? ⟨w4.heap.size, 2, none⟩ = some (.bool true) := X4'.cell 2
  have hcc := cellEq_self c
  have haa := cellEq_self a
  have hqe := run_cell_eql
  have hqn := run_cell_neq
  simp only [outV] at *
  go_wp2_with fail
  go_quiet (fail)
  clear x40 x41 x42 yc0 yc1 ya0 ya1 lc la l4 X4' hcc haa
  go_wp2_with fail
  have N5' : ∀ n, Inv w1 ((w5.alloc (.cells #[.int .u64 a.1, .int .u64 a.2, .bool (cellEq a c)] 41)).drewN n) m g 1 ev5 [was] _ := fun n => (N5.alloc _).drewN n
  refine (peek_inv (N5' _) 0 was rfl).mono ?_
  rintro e w6 ⟨rfl, N6, -⟩
  clear N5 N5'
  have yc0 := N6.oldCell xc0
  have yc1 := N6.oldCell xc1
  have yo0 := N6.oldCell xo0
  have yo1 := N6.oldCell xo1
  have lc : w.heap.size < w6.heap.size := World.block_lt_of_cell? w6 _ yc0
  have lo : w.heap.size + 1 + 1 + 1 < w6.heap.size := World.block_lt_of_cell? w6 _ yo0
  have ng : w6.heap.size ≠ g := Nat.ne_of_gt N6.mm.g_lt
  simp only [cellV] at *
  go_wp2_with fail
  have X6 := Blk.new w6 35 #[.int .u64 was.1, .int .u64 was.2]
  obtain ⟨now, hnow⟩ : ∃ now, now = if was = o then c else was := ⟨_, rfl⟩
  refine (do_inv (N6.alloc _) 2 2 0 o c (by simp) ⟨[now], [⟨0, 2, 0, c, a, c, true⟩, ⟨1, 2, 0, c, b, a, cellEq a c⟩, ⟨2, 2, 0, o, c, was, cellEq was o⟩], was, cellEq was o, 0⟩ ?_).mono ?_
  · by_cases h : was = o
    · subst h
      simp [doStep, doErr, becomes, hnow, cellEq_self]
    · simp [doStep, doErr, becomes, hnow, h, cellEq_not h]
  rintro e w7 ⟨rfl, ev7, N7, K7⟩
  have X6' := (N6.alloc _).stays K7 X6 (by decide) ng (by decide)
  clear yc0 yc1 yo0 yo1 lc lo X6 K7 N6 ng
  simp only [outV] at *
  go_wp2_with fail
  have X7 := Blk.new w7 41 #[.int .u64 was.1, .int .u64 was.2, .bool (cellEq was o)]
  refine (peek_inv (N7.alloc _) 0 now rfl).mono ?_
  rintro e w8 ⟨rfl, N8, K8⟩
  have X6a := K8.blk (X6'.alloc _) (fun h => h)
  have X7a := K8.blk X7 (fun h => h)
  clear X6' X7 K8 N7
  have yc0 := N8.oldCell xc0
  have yc1 := N8.oldCell xc1
  have yo0 := N8.oldCell xo0
  have yo1 := N8.oldCell xo1
  have lc : w.heap.size < w8.heap.size := World.block_lt_of_cell? w8 _ yc0
  have lo : w.heap.size + 1 + 1 + 1 < w8.heap.size := World.block_lt_of_cell? w8 _ yo0
  have l6 := X6a.lt
  have l7 := X7a.lt
  have x60 : w8.cell? ⟨w6.heap.size, 0, none⟩ = some (.int .u64 was.1) := X6a.cell 0
  have x61 : w8.cell? ⟨w6.heap.size, 1, none⟩ = some (.int .u64 was.2) := X6a.cell 1
  have x70 : w8.cell? ⟨w7.heap.size, 0, none⟩ = some (.int .u64 was.1) := X7a.cell 0
  have x71 : w8.cell? ⟨w7.heap.size, 1, none⟩ = some (.int .u64 was.2) := X7a.cell 1
  have x72 : w8.cell? ⟨w7.heap.size, 2, none⟩ = some (.bool (cellEq was o)) := X7a.cell 2
  have hww := cellEq_self was
  have fin : ∀ n, Below w.heap.size w ((w8.alloc (.cells #[.int .u64 now.1, .int .u64 now.2] 35)).drewN n) := fun n => Kept.toBelow ((L1.trans (N8.kept.alloc _)).drewN n) (Nat.le_refl _) (fun _ _ h => h)
  clear X6a X7a N8 L1
  simp only [cellV] at *
  by_cases h : was = o
  · rw [if_pos h] at hnow
    subst hnow
    have hwo : cellEq was o = true := (cellEq_iff _ _).2 h
    have hcc := cellEq_self now
    have HH := Lib.hid h
    clear h
    rw [hwo] at x72
    go_wp2_with fail
    go_quiet (fail)
    go_wp2_with fail
    go_ret
    exact ⟨rfl, fin _⟩
  · rw [if_neg h] at hnow
    subst hnow
    have hwo : cellEq now o = false := cellEq_not h
    have HH := Lib.hid h
    clear h
    rw [hwo] at x72
    go_wp2_with fail
    go_quiet (fail)
    go_wp2_with fail
    go_ret
    exact ⟨rfl, fin _⟩

end Go.Proofs.Ytgnjafaipnhejaa
