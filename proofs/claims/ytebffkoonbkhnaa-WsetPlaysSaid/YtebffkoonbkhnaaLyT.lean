/- Layer 7 (lay): walks: At. -/
import Derived.Test.YtebffkoonbkhnaaLyS
namespace Go.Proofs.Ytebffkoonbkhnaa
open Go.RowKit
attribute [local go_sem ↓] loadMap_eq

set_option maxRecDepth 100000 in
set_option maxHeartbeats 1000000 in
theorem at_nokind (c : CfgD) (kind i k : Int) (hk : kind < 0 ∨ 17 ≤ kind) (w : World) : Calls Try.prog 54 #[mapV c, .int .i64 kind, .int .i64 i, .int .i64 k] w fun e w' => e = .returned (.int .i64 (-1)) ∧ Kept (fun _ => False) w w' := by
  have HK := Lib.hid hk
  have hw : win i 0 (-1) = false := win_not.2 (by omega)
  clear hk
  rw [mapV_eq]
  unfold mapX mapXA
  have hl : (loadMap ⟨w.heap.size, 0, none⟩).run Try.prog (w.alloc (.cells #[.int .i64 c.t, .int .i64 c.b, .int .i64 c.wr, .int .i64 c.f, .int .u64 c.first, .int .u64 c.last, begX c 0, begX c 1, begX c 2, begX c 3, begX c 4, begX c 5, begX c 6, begX c 7, begX c 8, begX c 9, begX c 10, begX c 11, begX c 12, begX c 13, begX c 14, begX c 15, begX c 16] 31)) = .ok (.agg #[.int .i64 c.t, .int .i64 c.b, .int .i64 c.wr, .int .i64 c.f, .int .u64 c.first, .int .u64 c.last, begX c 0, begX c 1, begX c 2, begX c 3, begX c 4, begX c 5, begX c 6, begX c 7, begX c 8, begX c 9, begX c 10, begX c 11, begX c 12, begX c 13, begX c 14, begX c 15, begX c 16]) (w.alloc (.cells #[.int .i64 c.t, .int .i64 c.b, .int .i64 c.wr, .int .i64 c.f, .int .u64 c.first, .int .u64 c.last, begX c 0, begX c 1, begX c 2, begX c 3, begX c 4, begX c 5, begX c 6, begX c 7, begX c 8, begX c 9, begX c 10, begX c 11, begX c 12, begX c 13, begX c 14, begX c 15, begX c 16] 31)) := loadMap_blk (x := begX c) (Blk.new _ _ _)
  go_enter Try.func54, Try.ntmps54
  go_wp2_with (first | (go_at_call 93; refine (shape_none c (begX c) kind HK.out _).mono ?_; rintro e w1 ⟨rfl, hk1⟩; have hK := ((Kept.refl (fun _ => False) w).alloc (.cells #[.int .i64 c.t, .int .i64 c.b, .int .i64 c.wr, .int .i64 c.f, .int .u64 c.first, .int .u64 c.last, begX c 0, begX c 1, begX c 2, begX c 3, begX c 4, begX c 5, begX c 6, begX c 7, begX c 8, begX c 9, begX c 10, begX c 11, begX c 12, begX c 13, begX c 14, begX c 15, begX c 16] 31)).trans hk1; clear hk1) | (go_at_call 94; refine (within_calls _ _ _ _).mono ?_; rintro e w2 ⟨rfl, rfl⟩))
  go_ret
  exact ⟨rfl, hK⟩

set_option maxRecDepth 100000 in
set_option maxHeartbeats 2000000 in
theorem at_nothing (c : CfgD) (h : c.Bd) (n : Nat) (hn : n < 17) (i k : Int) (hi : ¬ (0 ≤ i ∧ i < c.things n)) (w : World) : Calls Try.prog 54 #[mapV c, .int .i64 (n : Int), .int .i64 i, .int .i64 k] w fun e w' => e = .returned (.int .i64 (-1)) ∧ Kept (fun _ => False) w w' := by
  have HH := Lib.hid h
  obtain ⟨a1, a2, a3, a4, a5, a6, a7⟩ := CfgD.shape_bd h n hn
  have hw : win i 0 (c.things n - 1) = false := win_not.2 (by omega)
  clear hi h
  rw [mapV_eq]
  unfold mapX mapXA
  have hl : (loadMap ⟨w.heap.size, 0, none⟩).run Try.prog (w.alloc (.cells #[.int .i64 c.t, .int .i64 c.b, .int .i64 c.wr, .int .i64 c.f, .int .u64 c.first, .int .u64 c.last, begX c 0, begX c 1, begX c 2, begX c 3, begX c 4, begX c 5, begX c 6, begX c 7, begX c 8, begX c 9, begX c 10, begX c 11, begX c 12, begX c 13, begX c 14, begX c 15, begX c 16] 31)) = .ok (.agg #[.int .i64 c.t, .int .i64 c.b, .int .i64 c.wr, .int .i64 c.f, .int .u64 c.first, .int .u64 c.last, begX c 0, begX c 1, begX c 2, begX c 3, begX c 4, begX c 5, begX c 6, begX c 7, begX c 8, begX c 9, begX c 10, begX c 11, begX c 12, begX c 13, begX c 14, begX c 15, begX c 16]) (w.alloc (.cells #[.int .i64 c.t, .int .i64 c.b, .int .i64 c.wr, .int .i64 c.f, .int .u64 c.first, .int .u64 c.last, begX c 0, begX c 1, begX c 2, begX c 3, begX c 4, begX c 5, begX c 6, begX c 7, begX c 8, begX c 9, begX c 10, begX c 11, begX c 12, begX c 13, begX c 14, begX c 15, begX c 16] 31)) := loadMap_blk (x := begX c) (Blk.new _ _ _)
  go_enter Try.func54, Try.ntmps54
  go_wp2_with (first | (go_at_call 93; refine (shape_calls c (begX c) HH.out n hn _).mono ?_; rintro e w1 ⟨rfl, hk1⟩; have hK := ((Kept.refl (fun _ => False) w).alloc (.cells #[.int .i64 c.t, .int .i64 c.b, .int .i64 c.wr, .int .i64 c.f, .int .u64 c.first, .int .u64 c.last, begX c 0, begX c 1, begX c 2, begX c 3, begX c 4, begX c 5, begX c 6, begX c 7, begX c 8, begX c 9, begX c 10, begX c 11, begX c 12, begX c 13, begX c 14, begX c 15, begX c 16] 31)).trans hk1; have hB : Blk w1 w.heap.size 31 (mapA c) := hk1.blk (Blk.new _ _ _) (fun h => h); have hcell : w1.cell? ⟨w.heap.size, 6 + n, none⟩ = some (.int .i64 (c.beg n)) := (hB.cell (6 + n)).trans (mapA_beg c hn); clear hk1 hB) | (go_at_call 94; refine (within_calls _ _ _ _).mono ?_; rintro e w2 ⟨rfl, rfl⟩))
  go_ret
  exact ⟨rfl, hK⟩

set_option maxRecDepth 100000 in
set_option maxHeartbeats 2000000 in
theorem at_noplace (c : CfgD) (h : c.Bd) (n : Nat) (hn : n < 17) (i k : Int) (hi : 0 ≤ i ∧ i < c.things n) (hk : ¬ (0 ≤ k ∧ k < c.places n)) (w : World) : Calls Try.prog 54 #[mapV c, .int .i64 (n : Int), .int .i64 i, .int .i64 k] w fun e w' => e = .returned (.int .i64 (-1)) ∧ Kept (fun _ => False) w w' := by
  have HH := Lib.hid h
  obtain ⟨a1, a2, a3, a4, a5, a6, a7⟩ := CfgD.shape_bd h n hn
  have hw : win i 0 (c.things n - 1) = true := win_iff.2 (by omega)
  have hw2 : win k 0 (c.places n - 1) = false := win_not.2 (by omega)
  clear hi hk h
  rw [mapV_eq]
  unfold mapX mapXA
  have hl : (loadMap ⟨w.heap.size, 0, none⟩).run Try.prog (w.alloc (.cells #[.int .i64 c.t, .int .i64 c.b, .int .i64 c.wr, .int .i64 c.f, .int .u64 c.first, .int .u64 c.last, begX c 0, begX c 1, begX c 2, begX c 3, begX c 4, begX c 5, begX c 6, begX c 7, begX c 8, begX c 9, begX c 10, begX c 11, begX c 12, begX c 13, begX c 14, begX c 15, begX c 16] 31)) = .ok (.agg #[.int .i64 c.t, .int .i64 c.b, .int .i64 c.wr, .int .i64 c.f, .int .u64 c.first, .int .u64 c.last, begX c 0, begX c 1, begX c 2, begX c 3, begX c 4, begX c 5, begX c 6, begX c 7, begX c 8, begX c 9, begX c 10, begX c 11, begX c 12, begX c 13, begX c 14, begX c 15, begX c 16]) (w.alloc (.cells #[.int .i64 c.t, .int .i64 c.b, .int .i64 c.wr, .int .i64 c.f, .int .u64 c.first, .int .u64 c.last, begX c 0, begX c 1, begX c 2, begX c 3, begX c 4, begX c 5, begX c 6, begX c 7, begX c 8, begX c 9, begX c 10, begX c 11, begX c 12, begX c 13, begX c 14, begX c 15, begX c 16] 31)) := loadMap_blk (x := begX c) (Blk.new _ _ _)
  go_enter Try.func54, Try.ntmps54
  go_wp2_with (first | (go_at_call 93; refine (shape_calls c (begX c) HH.out n hn _).mono ?_; rintro e w1 ⟨rfl, hk1⟩; have hK := ((Kept.refl (fun _ => False) w).alloc (.cells #[.int .i64 c.t, .int .i64 c.b, .int .i64 c.wr, .int .i64 c.f, .int .u64 c.first, .int .u64 c.last, begX c 0, begX c 1, begX c 2, begX c 3, begX c 4, begX c 5, begX c 6, begX c 7, begX c 8, begX c 9, begX c 10, begX c 11, begX c 12, begX c 13, begX c 14, begX c 15, begX c 16] 31)).trans hk1; have hB : Blk w1 w.heap.size 31 (mapA c) := hk1.blk (Blk.new _ _ _) (fun h => h); have hcell : w1.cell? ⟨w.heap.size, 6 + n, none⟩ = some (.int .i64 (c.beg n)) := (hB.cell (6 + n)).trans (mapA_beg c hn); clear hk1 hB) | (go_at_call 94; refine (within_calls _ _ _ _).mono ?_; rintro e w2 ⟨rfl, rfl⟩))
  go_ret
  exact ⟨rfl, hK⟩

set_option maxRecDepth 100000 in
set_option maxHeartbeats 2000000 in
theorem at_there (c : CfgD) (h : c.Bd) (n : Nat) (hn : n < 17) (i k : Int) (hi : 0 ≤ i ∧ i < c.things n) (hk : 0 ≤ k ∧ k < c.places n) (w : World) : Calls Try.prog 54 #[mapV c, .int .i64 (n : Int), .int .i64 i, .int .i64 k] w fun e w' => e = .returned (.int .i64 (c.beg n + i * c.apart n + k)) ∧ Kept (fun _ => False) w w' := by
  have HH := Lib.hid h
  obtain ⟨a1, a2, a3, a4, a5, a6, a7⟩ := CfgD.shape_bd h n hn
  have hw : win i 0 (c.things n - 1) = true := win_iff.2 (by omega)
  have hw2 : win k 0 (c.places n - 1) = true := win_iff.2 (by omega)
  have m0 : 0 ≤ i * c.apart n := Int.mul_nonneg hi.1 (by omega)
  have m1 : i * c.apart n ≤ 520 * 2106 := Int.mul_le_mul (by omega) a5 (by omega) (by omega)
  obtain ⟨k0, k1⟩ := hk
  obtain ⟨i0, i1⟩ := hi
  clear h
  rw [mapV_eq]
  unfold mapX mapXA
  have hl : (loadMap ⟨w.heap.size, 0, none⟩).run Try.prog (w.alloc (.cells #[.int .i64 c.t, .int .i64 c.b, .int .i64 c.wr, .int .i64 c.f, .int .u64 c.first, .int .u64 c.last, begX c 0, begX c 1, begX c 2, begX c 3, begX c 4, begX c 5, begX c 6, begX c 7, begX c 8, begX c 9, begX c 10, begX c 11, begX c 12, begX c 13, begX c 14, begX c 15, begX c 16] 31)) = .ok (.agg #[.int .i64 c.t, .int .i64 c.b, .int .i64 c.wr, .int .i64 c.f, .int .u64 c.first, .int .u64 c.last, begX c 0, begX c 1, begX c 2, begX c 3, begX c 4, begX c 5, begX c 6, begX c 7, begX c 8, begX c 9, begX c 10, begX c 11, begX c 12, begX c 13, begX c 14, begX c 15, begX c 16]) (w.alloc (.cells #[.int .i64 c.t, .int .i64 c.b, .int .i64 c.wr, .int .i64 c.f, .int .u64 c.first, .int .u64 c.last, begX c 0, begX c 1, begX c 2, begX c 3, begX c 4, begX c 5, begX c 6, begX c 7, begX c 8, begX c 9, begX c 10, begX c 11, begX c 12, begX c 13, begX c 14, begX c 15, begX c 16] 31)) := loadMap_blk (x := begX c) (Blk.new _ _ _)
  go_enter Try.func54, Try.ntmps54
  go_wp2_with (first | (go_at_call 93; refine (shape_calls c (begX c) HH.out n hn _).mono ?_; rintro e w1 ⟨rfl, hk1⟩; have hK := ((Kept.refl (fun _ => False) w).alloc (.cells #[.int .i64 c.t, .int .i64 c.b, .int .i64 c.wr, .int .i64 c.f, .int .u64 c.first, .int .u64 c.last, begX c 0, begX c 1, begX c 2, begX c 3, begX c 4, begX c 5, begX c 6, begX c 7, begX c 8, begX c 9, begX c 10, begX c 11, begX c 12, begX c 13, begX c 14, begX c 15, begX c 16] 31)).trans hk1; have hB : Blk w1 w.heap.size 31 (mapA c) := hk1.blk (Blk.new _ _ _) (fun h => h); have hcell : w1.cell? ⟨w.heap.size, 6 + n, none⟩ = some (.int .i64 (c.beg n)) := (hB.cell (6 + n)).trans (mapA_beg c hn); clear hk1 hB) | (go_at_call 94; refine (within_calls _ _ _ _).mono ?_; rintro e w2 ⟨rfl, rfl⟩))
  go_ret
  exact ⟨rfl, hK⟩

theorem at_calls (c : CfgD) (h : c.Bd) (kind i k : Int) (w : World) : Calls Try.prog 54 #[mapV c, .int .i64 kind, .int .i64 i, .int .i64 k] w fun e w' => e = .returned (.int .i64 (c.at_ kind i k)) ∧ Kept (fun _ => False) w w' := by
  by_cases g : 0 ≤ kind ∧ kind < 17
  · obtain ⟨n, rfl⟩ := Int.eq_ofNat_of_zero_le g.1
    have hn : n < 17 := by omega
    by_cases hi : 0 ≤ i ∧ i < c.things n
    · by_cases hk : 0 ≤ k ∧ k < c.places n
      · have e : c.at_ n i k = c.beg n + i * c.apart n + k := CfgD.at_of_hit ⟨hn, hi.1, hi.2, hk.1, hk.2, rfl⟩
        rw [e]
        exact at_there c h n hn i k hi hk w
      · have e : c.at_ n i k = -1 := by unfold CfgD.at_; rw [if_neg (by rw [Int.toNat_natCast]; omega)]
        rw [e]
        exact at_noplace c h n hn i k hi hk w
    · have e : c.at_ n i k = -1 := by unfold CfgD.at_; rw [if_neg (by rw [Int.toNat_natCast]; omega)]
      rw [e]
      exact at_nothing c h n hn i k hi w
  · have e : c.at_ kind i k = -1 := by unfold CfgD.at_; rw [if_neg (by omega)]
    rw [e]
    exact at_nokind c kind i k (by omega) w
end Go.Proofs.Ytebffkoonbkhnaa
