/- Layer 7 (lay): walks: At. -/
/- Layer 7 (lay): walks: What. -/
/- Layer 7 (lay): the contracts over what is kept. -/
import Derived.Test.YthjkodjpopcjaaaLyS
import Derived.LoopTactic
namespace Go.Proofs.Ythjkodjpopcjaaa
open Go.RowKit
attribute [local go_sem ↓] loadMap_eq

set_option maxRecDepth 100000 in
set_option maxHeartbeats 1000000 in
theorem at_nokind (c : CfgD) (kind i k : Int) (hk : kind < 0 ∨ 17 ≤ kind) (w : World) : Calls Try.prog 49 #[mapV c, .int .i64 kind, .int .i64 i, .int .i64 k] w fun e w' => e = .returned (.int .i64 (-1)) ∧ Kept (fun _ => False) w w' := by
  have HK := Lib.hid hk
  have hw : win i 0 (-1) = false := win_not.2 (by omega)
  clear hk
  rw [mapV_eq]
  unfold mapX mapXA
  have hl : (loadMap ⟨w.heap.size, 0, none⟩).run Try.prog (w.alloc (.cells #[.int .i64 c.t, .int .i64 c.b, .int .i64 c.wr, .int .i64 c.f, .int .u64 c.first, .int .u64 c.last, begX c 0, begX c 1, begX c 2, begX c 3, begX c 4, begX c 5, begX c 6, begX c 7, begX c 8, begX c 9, begX c 10, begX c 11, begX c 12, begX c 13, begX c 14, begX c 15, begX c 16] 31)) = .ok (.agg #[.int .i64 c.t, .int .i64 c.b, .int .i64 c.wr, .int .i64 c.f, .int .u64 c.first, .int .u64 c.last, begX c 0, begX c 1, begX c 2, begX c 3, begX c 4, begX c 5, begX c 6, begX c 7, begX c 8, begX c 9, begX c 10, begX c 11, begX c 12, begX c 13, begX c 14, begX c 15, begX c 16]) (w.alloc (.cells #[.int .i64 c.t, .int .i64 c.b, .int .i64 c.wr, .int .i64 c.f, .int .u64 c.first, .int .u64 c.last, begX c 0, begX c 1, begX c 2, begX c 3, begX c 4, begX c 5, begX c 6, begX c 7, begX c 8, begX c 9, begX c 10, begX c 11, begX c 12, begX c 13, begX c 14, begX c 15, begX c 16] 31)) := loadMap_blk (x := begX c) (Blk.new _ _ _)
  go_enter Try.func49, Try.ntmps49
  go_wp2_with (first | (go_at_call 81; refine (shape_none c (begX c) kind HK.out _).mono ?_; rintro e w1 ⟨rfl, hk1⟩; have hK := ((Kept.refl (fun _ => False) w).alloc (.cells #[.int .i64 c.t, .int .i64 c.b, .int .i64 c.wr, .int .i64 c.f, .int .u64 c.first, .int .u64 c.last, begX c 0, begX c 1, begX c 2, begX c 3, begX c 4, begX c 5, begX c 6, begX c 7, begX c 8, begX c 9, begX c 10, begX c 11, begX c 12, begX c 13, begX c 14, begX c 15, begX c 16] 31)).trans hk1; clear hk1) | (go_at_call 82; refine (within_calls _ _ _ _).mono ?_; rintro e w2 ⟨rfl, rfl⟩))
  go_ret
  exact ⟨rfl, hK⟩

set_option maxRecDepth 100000 in
set_option maxHeartbeats 2000000 in
theorem at_nothing (c : CfgD) (h : c.Bd) (n : Nat) (hn : n < 17) (i k : Int) (hi : ¬ (0 ≤ i ∧ i < c.things n)) (w : World) : Calls Try.prog 49 #[mapV c, .int .i64 (n : Int), .int .i64 i, .int .i64 k] w fun e w' => e = .returned (.int .i64 (-1)) ∧ Kept (fun _ => False) w w' := by
  have HH := Lib.hid h
  obtain ⟨a1, a2, a3, a4, a5, a6, a7⟩ := CfgD.shape_bd h n hn
  have hw : win i 0 (c.things n - 1) = false := win_not.2 (by omega)
  clear hi h
  rw [mapV_eq]
  unfold mapX mapXA
  have hl : (loadMap ⟨w.heap.size, 0, none⟩).run Try.prog (w.alloc (.cells #[.int .i64 c.t, .int .i64 c.b, .int .i64 c.wr, .int .i64 c.f, .int .u64 c.first, .int .u64 c.last, begX c 0, begX c 1, begX c 2, begX c 3, begX c 4, begX c 5, begX c 6, begX c 7, begX c 8, begX c 9, begX c 10, begX c 11, begX c 12, begX c 13, begX c 14, begX c 15, begX c 16] 31)) = .ok (.agg #[.int .i64 c.t, .int .i64 c.b, .int .i64 c.wr, .int .i64 c.f, .int .u64 c.first, .int .u64 c.last, begX c 0, begX c 1, begX c 2, begX c 3, begX c 4, begX c 5, begX c 6, begX c 7, begX c 8, begX c 9, begX c 10, begX c 11, begX c 12, begX c 13, begX c 14, begX c 15, begX c 16]) (w.alloc (.cells #[.int .i64 c.t, .int .i64 c.b, .int .i64 c.wr, .int .i64 c.f, .int .u64 c.first, .int .u64 c.last, begX c 0, begX c 1, begX c 2, begX c 3, begX c 4, begX c 5, begX c 6, begX c 7, begX c 8, begX c 9, begX c 10, begX c 11, begX c 12, begX c 13, begX c 14, begX c 15, begX c 16] 31)) := loadMap_blk (x := begX c) (Blk.new _ _ _)
  go_enter Try.func49, Try.ntmps49
  go_wp2_with (first | (go_at_call 81; refine (shape_calls c (begX c) HH.out n hn _).mono ?_; rintro e w1 ⟨rfl, hk1⟩; have hK := ((Kept.refl (fun _ => False) w).alloc (.cells #[.int .i64 c.t, .int .i64 c.b, .int .i64 c.wr, .int .i64 c.f, .int .u64 c.first, .int .u64 c.last, begX c 0, begX c 1, begX c 2, begX c 3, begX c 4, begX c 5, begX c 6, begX c 7, begX c 8, begX c 9, begX c 10, begX c 11, begX c 12, begX c 13, begX c 14, begX c 15, begX c 16] 31)).trans hk1; have hB : Blk w1 w.heap.size 31 (mapA c) := hk1.blk (Blk.new _ _ _) (fun h => h); have hcell : w1.cell? ⟨w.heap.size, 6 + n, none⟩ = some (.int .i64 (c.beg n)) := (hB.cell (6 + n)).trans (mapA_beg c hn); clear hk1 hB) | (go_at_call 82; refine (within_calls _ _ _ _).mono ?_; rintro e w2 ⟨rfl, rfl⟩))
  go_ret
  exact ⟨rfl, hK⟩

set_option maxRecDepth 100000 in
set_option maxHeartbeats 2000000 in
theorem at_noplace (c : CfgD) (h : c.Bd) (n : Nat) (hn : n < 17) (i k : Int) (hi : 0 ≤ i ∧ i < c.things n) (hk : ¬ (0 ≤ k ∧ k < c.places n)) (w : World) : Calls Try.prog 49 #[mapV c, .int .i64 (n : Int), .int .i64 i, .int .i64 k] w fun e w' => e = .returned (.int .i64 (-1)) ∧ Kept (fun _ => False) w w' := by
  have HH := Lib.hid h
  obtain ⟨a1, a2, a3, a4, a5, a6, a7⟩ := CfgD.shape_bd h n hn
  have hw : win i 0 (c.things n - 1) = true := win_iff.2 (by omega)
  have hw2 : win k 0 (c.places n - 1) = false := win_not.2 (by omega)
  clear hi hk h
  rw [mapV_eq]
  unfold mapX mapXA
  have hl : (loadMap ⟨w.heap.size, 0, none⟩).run Try.prog (w.alloc (.cells #[.int .i64 c.t, .int .i64 c.b, .int .i64 c.wr, .int .i64 c.f, .int .u64 c.first, .int .u64 c.last, begX c 0, begX c 1, begX c 2, begX c 3, begX c 4, begX c 5, begX c 6, begX c 7, begX c 8, begX c 9, begX c 10, begX c 11, begX c 12, begX c 13, begX c 14, begX c 15, begX c 16] 31)) = .ok (.agg #[.int .i64 c.t, .int .i64 c.b, .int .i64 c.wr, .int .i64 c.f, .int .u64 c.first, .int .u64 c.last, begX c 0, begX c 1, begX c 2, begX c 3, begX c 4, begX c 5, begX c 6, begX c 7, begX c 8, begX c 9, begX c 10, begX c 11, begX c 12, begX c 13, begX c 14, begX c 15, begX c 16]) (w.alloc (.cells #[.int .i64 c.t, .int .i64 c.b, .int .i64 c.wr, .int .i64 c.f, .int .u64 c.first, .int .u64 c.last, begX c 0, begX c 1, begX c 2, begX c 3, begX c 4, begX c 5, begX c 6, begX c 7, begX c 8, begX c 9, begX c 10, begX c 11, begX c 12, begX c 13, begX c 14, begX c 15, begX c 16] 31)) := loadMap_blk (x := begX c) (Blk.new _ _ _)
  go_enter Try.func49, Try.ntmps49
  go_wp2_with (first | (go_at_call 81; refine (shape_calls c (begX c) HH.out n hn _).mono ?_; rintro e w1 ⟨rfl, hk1⟩; have hK := ((Kept.refl (fun _ => False) w).alloc (.cells #[.int .i64 c.t, .int .i64 c.b, .int .i64 c.wr, .int .i64 c.f, .int .u64 c.first, .int .u64 c.last, begX c 0, begX c 1, begX c 2, begX c 3, begX c 4, begX c 5, begX c 6, begX c 7, begX c 8, begX c 9, begX c 10, begX c 11, begX c 12, begX c 13, begX c 14, begX c 15, begX c 16] 31)).trans hk1; have hB : Blk w1 w.heap.size 31 (mapA c) := hk1.blk (Blk.new _ _ _) (fun h => h); have hcell : w1.cell? ⟨w.heap.size, 6 + n, none⟩ = some (.int .i64 (c.beg n)) := (hB.cell (6 + n)).trans (mapA_beg c hn); clear hk1 hB) | (go_at_call 82; refine (within_calls _ _ _ _).mono ?_; rintro e w2 ⟨rfl, rfl⟩))
  go_ret
  exact ⟨rfl, hK⟩

set_option maxRecDepth 100000 in
set_option maxHeartbeats 2000000 in
theorem at_there (c : CfgD) (h : c.Bd) (n : Nat) (hn : n < 17) (i k : Int) (hi : 0 ≤ i ∧ i < c.things n) (hk : 0 ≤ k ∧ k < c.places n) (w : World) : Calls Try.prog 49 #[mapV c, .int .i64 (n : Int), .int .i64 i, .int .i64 k] w fun e w' => e = .returned (.int .i64 (c.beg n + i * c.apart n + k)) ∧ Kept (fun _ => False) w w' := by
  have HH := Lib.hid h
  obtain ⟨a1, a2, a3, a4, a5, a6, a7⟩ := CfgD.shape_bd h n hn
  have hw : win i 0 (c.things n - 1) = true := win_iff.2 (by omega)
  have hw2 : win k 0 (c.places n - 1) = true := win_iff.2 (by omega)
  have m0 : 0 ≤ i * c.apart n := Int.mul_nonneg hi.1 (by omega)
  have m1 : i * c.apart n ≤ 520 * 2106 := Int.mul_le_mul (by omega) a5 (by omega) (by omega)
  obtain ⟨k0, k1⟩ := hk
  obtain ⟨i0, i1⟩ := hi
  clear h
  rw [mapV_eq]
  unfold mapX mapXA
  have hl : (loadMap ⟨w.heap.size, 0, none⟩).run Try.prog (w.alloc (.cells #[.int .i64 c.t, .int .i64 c.b, .int .i64 c.wr, .int .i64 c.f, .int .u64 c.first, .int .u64 c.last, begX c 0, begX c 1, begX c 2, begX c 3, begX c 4, begX c 5, begX c 6, begX c 7, begX c 8, begX c 9, begX c 10, begX c 11, begX c 12, begX c 13, begX c 14, begX c 15, begX c 16] 31)) = .ok (.agg #[.int .i64 c.t, .int .i64 c.b, .int .i64 c.wr, .int .i64 c.f, .int .u64 c.first, .int .u64 c.last, begX c 0, begX c 1, begX c 2, begX c 3, begX c 4, begX c 5, begX c 6, begX c 7, begX c 8, begX c 9, begX c 10, begX c 11, begX c 12, begX c 13, begX c 14, begX c 15, begX c 16]) (w.alloc (.cells #[.int .i64 c.t, .int .i64 c.b, .int .i64 c.wr, .int .i64 c.f, .int .u64 c.first, .int .u64 c.last, begX c 0, begX c 1, begX c 2, begX c 3, begX c 4, begX c 5, begX c 6, begX c 7, begX c 8, begX c 9, begX c 10, begX c 11, begX c 12, begX c 13, begX c 14, begX c 15, begX c 16] 31)) := loadMap_blk (x := begX c) (Blk.new _ _ _)
  go_enter Try.func49, Try.ntmps49
  go_wp2_with (first | (go_at_call 81; refine (shape_calls c (begX c) HH.out n hn _).mono ?_; rintro e w1 ⟨rfl, hk1⟩; have hK := ((Kept.refl (fun _ => False) w).alloc (.cells #[.int .i64 c.t, .int .i64 c.b, .int .i64 c.wr, .int .i64 c.f, .int .u64 c.first, .int .u64 c.last, begX c 0, begX c 1, begX c 2, begX c 3, begX c 4, begX c 5, begX c 6, begX c 7, begX c 8, begX c 9, begX c 10, begX c 11, begX c 12, begX c 13, begX c 14, begX c 15, begX c 16] 31)).trans hk1; have hB : Blk w1 w.heap.size 31 (mapA c) := hk1.blk (Blk.new _ _ _) (fun h => h); have hcell : w1.cell? ⟨w.heap.size, 6 + n, none⟩ = some (.int .i64 (c.beg n)) := (hB.cell (6 + n)).trans (mapA_beg c hn); clear hk1 hB) | (go_at_call 82; refine (within_calls _ _ _ _).mono ?_; rintro e w2 ⟨rfl, rfl⟩))
  go_ret
  exact ⟨rfl, hK⟩

theorem at_calls (c : CfgD) (h : c.Bd) (kind i k : Int) (w : World) : Calls Try.prog 49 #[mapV c, .int .i64 kind, .int .i64 i, .int .i64 k] w fun e w' => e = .returned (.int .i64 (c.at_ kind i k)) ∧ Kept (fun _ => False) w w' := by
  by_cases g : 0 ≤ kind ∧ kind < 17
  · obtain ⟨n, rfl⟩ := Int.eq_ofNat_of_zero_le g.1
    have hn : n < 17 := by omega
    by_cases hi : 0 ≤ i ∧ i < c.things n
    · by_cases hk : 0 ≤ k ∧ k < c.places n
      · have e : c.at_ n i k = c.beg n + i * c.apart n + k := CfgD.at_of_hit ⟨hn, hi.1, hi.2, hk.1, hk.2, rfl⟩
        rw [e]
        exact at_there c h n hn i k hi hk w
      · have e : c.at_ n i k = -1 := by unfold CfgD.at_; rw [if_neg (by rw [Int.toNat_natCast]; omega)]
        rw [e]
        exact at_noplace c h n hn i k hi hk w
    · have e : c.at_ n i k = -1 := by unfold CfgD.at_; rw [if_neg (by rw [Int.toNat_natCast]; omega)]
      rw [e]
      exact at_nothing c h n hn i k hi w
  · have e : c.at_ kind i k = -1 := by unfold CfgD.at_; rw [if_neg (by omega)]
    rw [e]
    exact at_nokind c kind i k (by omega) w
end Go.Proofs.Ythjkodjpopcjaaa

namespace Go.Proofs.Ythjkodjpopcjaaa
open Go.RowKit

/-- The places where kinds begin, read out of a map in memory. -/
def loadBeg (a : Addr) : Sem Value := loadVar 29 a
theorem loadBeg_eq (a : Addr) : loadVar 29 a = loadBeg a := rfl
theorem loadBeg_blk {w : World} {B : Nat} {c : CfgD} (h : Blk w B 31 (mapA c)) : (loadBeg ⟨B, 6, none⟩).run Try.prog w = .ok (.agg (begA c)) w :=
  run_loadVar_mid w B 6 29 (begA c).toList _ (fun j v hv => by
    rw [h.cell, ← hv]
    match j with
    | 0 => rfl
    | 1 => rfl
    | 2 => rfl
    | 3 => rfl
    | 4 => rfl
    | 5 => rfl
    | 6 => rfl
    | 7 => rfl
    | 8 => rfl
    | 9 => rfl
    | 10 => rfl
    | 11 => rfl
    | 12 => rfl
    | 13 => rfl
    | 14 => rfl
    | 15 => rfl
    | 16 => rfl
    | n + 17 => simp [begA] at hv) Try.underlying29 rfl (by kernel_rfl)
set_option maxRecDepth 100000 in
theorem index_beg (c : CfgD) (k : Nat) (hk : k < 17) (W : World) : (Instr.index 29 (.agg (begA c)) (.int .i64 (k : Int))).run Try.prog W = .ok (.int .i64 (c.beg k)) W := by
  match k, hk with
  | 0, _ => rfl
  | 1, _ => rfl
  | 2, _ => rfl
  | 3, _ => rfl
  | 4, _ => rfl
  | 5, _ => rfl
  | 6, _ => rfl
  | 7, _ => rfl
  | 8, _ => rfl
  | 9, _ => rfl
  | 10, _ => rfl
  | 11, _ => rfl
  | 12, _ => rfl
  | 13, _ => rfl
  | 14, _ => rfl
  | 15, _ => rfl
  | 16, _ => rfl
  | n + 17, hn => omega
attribute [local go_sem ↓] loadMap_eq loadBeg_eq

/-- No kind below k has this place. -/
def NoHit (c : CfgD) (p : Int) (k : Nat) : Prop := ∀ j, j < k → ¬ (c.beg j ≤ p ∧ (p - c.beg j) / c.apart j < c.things j ∧ (p - c.beg j) % c.apart j < c.places j)
theorem NoHit.next {c : CfgD} {p : Int} {k : Nat} (h : NoHit c p k) (hn : ¬ (c.beg k ≤ p ∧ (p - c.beg k) / c.apart k < c.things k ∧ (p - c.beg k) % c.apart k < c.places k)) : NoHit c p (k + 1) := fun j hj => by
  rcases Nat.lt_or_ge j k with h1 | h1
  · exact h j h1
  · obtain rfl : j = k := by omega
    exact hn
theorem NoHit.what {c : CfgD} (h : c.Bd) {p : Int} (hn : NoHit c p 17) : c.what p = (-1, 0, 0) := by
  by_cases hp : 0 ≤ p ∧ p < c.size
  · obtain ⟨k, i, j, _, hh⟩ := CfgD.hit_what h hp.1 hp.2
    exact absurd ((CfgD.hit_iff h hh.1).1 ⟨i, j, hh⟩) (hn k hh.1)
  · exact CfgD.what_out h (by omega)
def WhatR (c : CfgD) (p : Int) (w : World) (e : Ending) (w' : World) : Prop := e = .returned (.tuple #[.int .i64 (c.what p).1, .int .i64 (c.what p).2.1, .int .i64 (c.what p).2.2]) ∧ Kept (fun _ => False) w w'

set_option maxRecDepth 100000 in
set_option maxHeartbeats 4000000 in
theorem what_calls (c : CfgD) (h : c.Bd) (p : Int) (hp : -9223372036854775808 ≤ p ∧ p ≤ 9223372036854775807) (w : World) : Calls Try.prog 52 #[mapV c, .int .i64 p] w (WhatR c p w) := by
  have HH := Lib.hid h
  obtain ⟨p0, p1⟩ := hp
  clear h
  rw [mapV_eq]
  unfold mapX mapXA
  have hlb : (loadBeg ⟨w.heap.size, 6, none⟩).run Try.prog (w.alloc (.cells #[.int .i64 c.t, .int .i64 c.b, .int .i64 c.wr, .int .i64 c.f, .int .u64 c.first, .int .u64 c.last, begX c 0, begX c 1, begX c 2, begX c 3, begX c 4, begX c 5, begX c 6, begX c 7, begX c 8, begX c 9, begX c 10, begX c 11, begX c 12, begX c 13, begX c 14, begX c 15, begX c 16] 31)) = .ok (.agg (begA c)) (w.alloc (.cells #[.int .i64 c.t, .int .i64 c.b, .int .i64 c.wr, .int .i64 c.f, .int .u64 c.first, .int .u64 c.last, begX c 0, begX c 1, begX c 2, begX c 3, begX c 4, begX c 5, begX c 6, begX c 7, begX c 8, begX c 9, begX c 10, begX c 11, begX c 12, begX c 13, begX c 14, begX c 15, begX c 16] 31)) := loadBeg_blk (c := c) (Blk.new _ _ _)
  go_enter Try.func52, Try.ntmps52
  go_wp2_with fail
  clear hlb
  go_loopw [16] (fun i wr => ∃ (k : Nat) (W : World), W = wr ∧ k ≤ 17 ∧ i = .int .i64 k ∧ NoHit c p k ∧ Kept (fun _ => False) (w.alloc (.cells #[.int .i64 c.t, .int .i64 c.b, .int .i64 c.wr, .int .i64 c.f, .int .u64 c.first, .int .u64 c.last, begX c 0, begX c 1, begX c 2, begX c 3, begX c 4, begX c 5, begX c 6, begX c 7, begX c 8, begX c 9, begX c 10, begX c 11, begX c 12, begX c 13, begX c 14, begX c 15, begX c 16] 31)) W) (fun i _ => 17 - (intOf i).toNat)
  case atStart => exact ⟨0, _, rfl, Nat.zero_le _, rfl, (fun j hj => absurd hj (by omega)), Kept.refl _ _⟩
  case round =>
    obtain ⟨k, wr, rfl, hk, rfl, hn, hK⟩ := hrel
    have HN := Lib.hid hn
    have HK := Lib.hid hK
    have HB : Hid (Blk wr w.heap.size 31 (mapA c)) := Lib.hid (hK.blk (Blk.new _ _ _) (fun h => h))
    have hl : (loadMap ⟨w.heap.size, 0, none⟩).run Try.prog wr = .ok (.agg (mapA c)) wr := loadMap_arr HB.out rfl
    clear hn hK
    by_cases hlt : k < 17
    · have hix := index_beg c k hlt
      obtain ⟨a1, a2, a3, a4, a5, a6, a7⟩ := CfgD.shape_bd HH.out k hlt
      by_cases h1 : c.beg k ≤ p
      · have e1 : IntKind.i64.wrap (p - c.beg k) = p - c.beg k := IntWalk.i64_in _ (by omega)
        have e2 : (p - c.beg k).tdiv (c.apart k) = (p - c.beg k) / c.apart k := Int.tdiv_eq_ediv_of_nonneg (by omega)
        have e3 : (p - c.beg k).tmod (c.apart k) = (p - c.beg k) % c.apart k := Int.tmod_eq_emod_of_nonneg (by omega)
        go_wp2_with (go_at_call 81; refine (shape_calls c (begX c) HH.out k hlt _).mono ?_; rintro e w1 ⟨rfl, hk1⟩; have HK1 := Lib.hid (HK.out.trans hk1); clear hk1)
        go_quiet (fail)
        have q0 : 0 ≤ (p - c.beg k) / c.apart k := Int.ediv_nonneg (by omega) (by omega)
        have q1 : (p - c.beg k) / c.apart k ≤ p - c.beg k := Int.ediv_le_self _ (by omega)
        have e4 : wrap64 ((p - c.beg k) / c.apart k) = (p - c.beg k) / c.apart k := IntWalk.wrap64_in _ ⟨by omega, by omega⟩
        rw [e4]
        have HW := Lib.hid (fun hh => CfgD.hit_what_at HH.out (p := p) hlt hh)
        have HX := Lib.hid (fun hh => NoHit.next HN.out hh)
        clear e1 e2 e3 e4 hix hl
        generalize (p - c.beg k) / c.apart k = q at *
        generalize (p - c.beg k) % c.apart k = r at *
        by_cases g1 : q < c.things k
        · by_cases g2 : r < c.places k
          · have hw := HW.out ⟨h1, g1, g2⟩
            have HWW := Lib.hid hw
            clear HW HX hw
            go_wp2_with fail
            go_ret3
            exact ⟨by rw [HWW.out]; rfl, ((Kept.refl _ w).alloc _).trans (HK1.out.drewN _)⟩
          · have hx := HX.out (fun hh => g2 hh.2.2)
            have HXX := Lib.hid hx
            clear HW HX hx
            go_wp2_with fail
            go_roundw
            case rel => exact ⟨k + 1, _, rfl, by omega, by go_num, HXX.out, HK1.out.drewN _⟩
            case measure => simp [intOf]; omega
        · have hx := HX.out (fun hh => g1 hh.2.1)
          have HXX := Lib.hid hx
          clear HW HX hx
          go_wp2_with fail
          go_roundw
          case rel => exact ⟨k + 1, _, rfl, by omega, by go_num, HXX.out, HK1.out.drewN _⟩
          case measure => simp [intOf]; omega
      · have HXX := Lib.hid (NoHit.next HN.out (fun hh => h1 hh.1))
        have hne : ¬ c.apart k = 0 := by omega
        go_wp2_with (go_at_call 81; refine (shape_calls c (begX c) HH.out k hlt _).mono ?_; rintro e w1 ⟨rfl, hk1⟩; have HK1 := Lib.hid (HK.out.trans hk1); clear hk1)
        go_quiet (fail)
        go_wp2_with fail
        go_roundw
        case rel => exact ⟨k + 1, _, rfl, by omega, by go_num, HXX.out, HK1.out.drewN _⟩
        case measure => simp [intOf]; omega
    · obtain rfl : k = 17 := by omega
      have HXX := Lib.hid (NoHit.what HH.out HN.out)
      go_wp2_with fail
      go_ret3
      exact ⟨by rw [HXX.out]; rfl, ((Kept.refl _ w).alloc _).trans HK.out⟩
end Go.Proofs.Ythjkodjpopcjaaa

namespace Go.Proofs.Ythjkodjpopcjaaa
open Go.RowKit
attribute [local go_sem ↓] loadMap_eq

/-- True, and all is kept. -/
def Good (w : World) (e : Ending) (w' : World) : Prop := e = .returned (.bool true) ∧ Kept (fun _ => False) w w'

theorem limitK (c : CfgD) (h : c.Bd) (w : World) : Calls Try.prog 50 #[mapV c] w fun e w' => e = .returned (.int .i64 c.lim) ∧ Kept (fun _ => False) w w' :=
  (limit_calls c (begX c) h w).mono fun _ _ ⟨he, hb⟩ => ⟨he, keptBelow hb⟩
theorem capK (c : CfgD) (h : c.Bd) (w : World) : Calls Try.prog 95 #[mapV c] w fun e w' => e = .returned (.int .i64 c.cap) ∧ Kept (fun _ => False) w w' :=
  (cap_calls c (begX c) h w).mono fun _ _ ⟨he, hb⟩ => ⟨he, keptBelow hb⟩
theorem strideK (c : CfgD) (h : c.Bd) (w : World) : Calls Try.prog 90 #[mapV c] w fun e w' => e = .returned (.int .i64 c.str) ∧ Kept (fun _ => False) w w' :=
  (stride_calls c (begX c) h w).mono fun _ _ ⟨he, hb⟩ => ⟨he, keptBelow hb⟩
theorem cfgK (c : CfgD) (w : World) : Calls Try.prog 70 #[mapV c] w fun e w' => e = .returned (cfgV c) ∧ Kept (fun _ => False) w w' :=
  (cfg_calls c w).mono fun _ _ ⟨he, hb⟩ => ⟨he, keptBelow hb⟩
theorem ofK_no (c : CfgD) (h : ¬ c.Ok) (w : World) : Calls Try.prog 19 #[cfgV c] w fun e w' => e = .returned (.tuple #[.agg zeroA, .int .i64 1]) ∧ Kept (fun _ => False) w w' :=
  (of_no c h w).mono fun _ _ ⟨he, hb⟩ => ⟨he, keptBelow hb⟩
theorem ofK_yes (c : CfgD) (h : c.Ok) (w : World) : Calls Try.prog 19 #[cfgV c] w fun e w' => e = .returned (.tuple #[mapV c, .int .i64 0]) ∧ Kept (fun _ => False) w w' :=
  (of_yes c h w).mono fun _ _ ⟨he, hb⟩ => ⟨he, keptBelow hb⟩

end Go.Proofs.Ythjkodjpopcjaaa
