/- Layer 7 (lay): the document's Limit, Cap, Stride, Count, Each, From. -/
import Derived.Test.YthjkodjpopcjaaaLyG
namespace Go.Proofs.Ythjkodjpopcjaaa
open Go.RowKit

set_option maxRecDepth 100000 in
set_option maxHeartbeats 2000000 in
theorem rLimit (c : CfgD) (h : c.Bd) (w : World) : Calls Try.prog 46 #[cfgV c] w fun e w' => e = .returned (.int .i64 (c.lim)) ∧ Kept (fun _ => False) w w' := by
  have HH := Lib.hid h
  obtain ⟨t1, t8, b1, b64, w0, w64, l0, l1, w3, w5, s0, s1⟩ := h
  have hm : c.lim = c.t * c.wr + c.t := by unfold CfgD.lim; rw [Int.mul_add, Int.mul_one]
  have m0 : 0 ≤ c.t * c.wr := Int.mul_nonneg (by omega) w0
  have m1 : c.t * c.wr ≤ 8 * 64 := Int.mul_le_mul t8 w64 w0 (by omega)
  unfold cfgV
  go_enter Try.func46, Try.ntmps46
  go_wp2_with fail
  go_ret
  exact ⟨ret_i (by rw [hm]), (Kept.refl _ w).alloc _⟩

set_option maxRecDepth 100000 in
set_option maxHeartbeats 2000000 in
theorem rCap (c : CfgD) (h : c.Bd) (w : World) : Calls Try.prog 96 #[cfgV c] w fun e w' => e = .returned (.int .i64 (c.cap)) ∧ Kept (fun _ => False) w w' := by
  have HH := Lib.hid h
  obtain ⟨t1, t8, b1, b64, w0, w64, l0, l1, w3, w5, s0, s1⟩ := h
  have l0' : 3 ≤ c.t * (c.wr + 3) := w3
  have l1' : c.t * (c.wr + 3) ≤ 536 := w5
  unfold cfgV
  go_enter Try.func96, Try.ntmps96
  go_wp2_with fail
  go_region_held3 (fun w' => w'.cell? ⟨w.heap.size, 0, none⟩ = some (.int .i64 c.t) ∧ w'.cell? ⟨w.heap.size, 1, none⟩ = some (.int .i64 c.b) ∧ w'.cell? ⟨w.heap.size, 2, none⟩ = some (.int .i64 c.wr) ∧ w'.cell? ⟨w.heap.size, 3, none⟩ = some (.int .i64 c.f) ∧ w'.cell? ⟨w.heap.size, 4, none⟩ = some (.int .u64 c.first) ∧ w'.cell? ⟨w.heap.size, 5, none⟩ = some (.int .u64 c.last))
    (first | assumption | exact ⟨hC3.cell 0, hC3.cell 1, hC3.cell 2, hC3.cell 3, hC3.cell 4, hC3.cell 5⟩ | exact ⟨hC2.cell 0, hC2.cell 1, hC2.cell 2, hC2.cell 3, hC2.cell 4, hC2.cell 5⟩ | exact ⟨hC1.cell 0, hC1.cell 1, hC1.cell 2, hC1.cell 3, hC1.cell 4, hC1.cell 5⟩ | exact ⟨(Blk.drew (Blk.new _ _ _)).cell 0, (Blk.drew (Blk.new _ _ _)).cell 1, (Blk.drew (Blk.new _ _ _)).cell 2, (Blk.drew (Blk.new _ _ _)).cell 3, (Blk.drew (Blk.new _ _ _)).cell 4, (Blk.drew (Blk.new _ _ _)).cell 5⟩)
    (first | (go_at_call 46; (refine (rLimit c HH.out _).mono ?_); rintro e w1 ⟨rfl, hk⟩; have hC1 : Blk w1 w.heap.size 24 #[.int .i64 c.t, .int .i64 c.b, .int .i64 c.wr, .int .i64 c.f, .int .u64 c.first, .int .u64 c.last] := hk.blk (Blk.drew (Blk.new _ _ _)) (fun h => h); have hK1 := (((Kept.refl (fun _ => False) w).alloc _).drew).trans hk; clear hk))
  go_wp2_with fail
  go_ret
  have e1 : IntKind.i64.wrap (c.wr + 3) = c.wr + 3 := IntWalk.i64_in _ (by omega)
  have e2 : IntKind.i64.wrap (c.t * (c.wr + 3)) = c.t * (c.wr + 3) := IntWalk.i64_in _ (by omega)
  have e3 : IntKind.i64.wrap (3 * c.lim) = 3 * c.lim := IntWalk.i64_in _ (by omega)
  have e4 : IntKind.i64.wrap (c.t * (c.wr + 3) + 3 * c.lim) = c.t * (c.wr + 3) + 3 * c.lim := IntWalk.i64_in _ (by omega)
  have e5 : IntKind.i64.wrap (c.t * (c.wr + 3) + 3 * c.lim + 2) = c.t * (c.wr + 3) + 3 * c.lim + 2 := IntWalk.i64_in _ (by omega)
  exact ⟨ret_i (by rw [e1, e2, e3, e4, e5]; rfl), hK1⟩

set_option maxRecDepth 100000 in
set_option maxHeartbeats 2000000 in
theorem rStride (c : CfgD) (h : c.Bd) (w : World) : Calls Try.prog 86 #[cfgV c] w fun e w' => e = .returned (.int .i64 (c.str)) ∧ Kept (fun _ => False) w w' := by
  have HH := Lib.hid h
  obtain ⟨t1, t8, b1, b64, w0, w64, l0, l1, w3, w5, s0, s1⟩ := h
  have cb : 0 ≤ c.cap ∧ c.cap ≤ 5000 := by unfold CfgD.cap; omega
  obtain ⟨cb1, cb2⟩ := cb
  unfold cfgV
  go_enter Try.func86, Try.ntmps86
  go_wp2_with (go_at_call 96; (refine (rCap c HH.out _).mono ?_); rintro e w1 ⟨rfl, hk⟩; have hK := ((Kept.refl (fun _ => False) w).alloc (.cells #[.int .i64 c.t, .int .i64 c.b, .int .i64 c.wr, .int .i64 c.f, .int .u64 c.first, .int .u64 c.last] 24)).trans hk; clear hk)
  go_ret
  exact ⟨rfl, hK⟩

set_option maxRecDepth 100000 in
set_option maxHeartbeats 2000000 in
theorem count_0 (c : CfgD) (h : c.Bd) (w : World) : Calls Try.prog 84 #[cfgV c, .int .i64 0] w fun e w' => e = .returned (.int .i64 (1)) ∧ Kept (fun _ => False) w w' := by
  have HH := Lib.hid h
  obtain ⟨t1, t8, b1, b64, w0, w64, l0, l1, w3, w5, s0, s1⟩ := h
  unfold cfgV
  go_enter Try.func84, Try.ntmps84
  go_wp2_with fail
  go_ret
  exact ⟨rfl, (Kept.refl _ w).alloc _⟩

set_option maxRecDepth 100000 in
set_option maxHeartbeats 2000000 in
theorem each_0 (c : CfgD) (h : c.Bd) (w : World) : Calls Try.prog 85 #[cfgV c, .int .i64 0] w fun e w' => e = .returned (.int .i64 (1)) ∧ Kept (fun _ => False) w w' := by
  have HH := Lib.hid h
  obtain ⟨t1, t8, b1, b64, w0, w64, l0, l1, w3, w5, s0, s1⟩ := h
  unfold cfgV
  go_enter Try.func85, Try.ntmps85
  go_wp2_with fail
  go_ret
  exact ⟨rfl, (Kept.refl _ w).alloc _⟩

set_option maxRecDepth 100000 in
set_option maxHeartbeats 2000000 in
theorem count_1 (c : CfgD) (h : c.Bd) (w : World) : Calls Try.prog 84 #[cfgV c, .int .i64 1] w fun e w' => e = .returned (.int .i64 (c.t)) ∧ Kept (fun _ => False) w w' := by
  have HH := Lib.hid h
  obtain ⟨t1, t8, b1, b64, w0, w64, l0, l1, w3, w5, s0, s1⟩ := h
  unfold cfgV
  go_enter Try.func84, Try.ntmps84
  go_wp2_with fail
  go_ret
  exact ⟨rfl, (Kept.refl _ w).alloc _⟩

set_option maxRecDepth 100000 in
set_option maxHeartbeats 2000000 in
theorem each_1 (c : CfgD) (h : c.Bd) (w : World) : Calls Try.prog 85 #[cfgV c, .int .i64 1] w fun e w' => e = .returned (.int .i64 (1)) ∧ Kept (fun _ => False) w w' := by
  have HH := Lib.hid h
  obtain ⟨t1, t8, b1, b64, w0, w64, l0, l1, w3, w5, s0, s1⟩ := h
  unfold cfgV
  go_enter Try.func85, Try.ntmps85
  go_wp2_with fail
  go_ret
  exact ⟨rfl, (Kept.refl _ w).alloc _⟩

set_option maxRecDepth 100000 in
set_option maxHeartbeats 2000000 in
theorem count_2 (c : CfgD) (h : c.Bd) (w : World) : Calls Try.prog 84 #[cfgV c, .int .i64 2] w fun e w' => e = .returned (.int .i64 (c.t)) ∧ Kept (fun _ => False) w w' := by
  have HH := Lib.hid h
  obtain ⟨t1, t8, b1, b64, w0, w64, l0, l1, w3, w5, s0, s1⟩ := h
  unfold cfgV
  go_enter Try.func84, Try.ntmps84
  go_wp2_with fail
  go_ret
  exact ⟨rfl, (Kept.refl _ w).alloc _⟩

set_option maxRecDepth 100000 in
set_option maxHeartbeats 2000000 in
theorem each_2 (c : CfgD) (h : c.Bd) (w : World) : Calls Try.prog 85 #[cfgV c, .int .i64 2] w fun e w' => e = .returned (.int .i64 (4)) ∧ Kept (fun _ => False) w w' := by
  have HH := Lib.hid h
  obtain ⟨t1, t8, b1, b64, w0, w64, l0, l1, w3, w5, s0, s1⟩ := h
  unfold cfgV
  go_enter Try.func85, Try.ntmps85
  go_wp2_with fail
  go_ret
  exact ⟨rfl, (Kept.refl _ w).alloc _⟩

set_option maxRecDepth 100000 in
set_option maxHeartbeats 2000000 in
theorem count_3 (c : CfgD) (h : c.Bd) (w : World) : Calls Try.prog 84 #[cfgV c, .int .i64 3] w fun e w' => e = .returned (.int .i64 (c.t)) ∧ Kept (fun _ => False) w w' := by
  have HH := Lib.hid h
  obtain ⟨t1, t8, b1, b64, w0, w64, l0, l1, w3, w5, s0, s1⟩ := h
  unfold cfgV
  go_enter Try.func84, Try.ntmps84
  go_wp2_with fail
  go_ret
  exact ⟨rfl, (Kept.refl _ w).alloc _⟩

set_option maxRecDepth 100000 in
set_option maxHeartbeats 2000000 in
theorem each_3 (c : CfgD) (h : c.Bd) (w : World) : Calls Try.prog 85 #[cfgV c, .int .i64 3] w fun e w' => e = .returned (.int .i64 (1)) ∧ Kept (fun _ => False) w w' := by
  have HH := Lib.hid h
  obtain ⟨t1, t8, b1, b64, w0, w64, l0, l1, w3, w5, s0, s1⟩ := h
  unfold cfgV
  go_enter Try.func85, Try.ntmps85
  go_wp2_with fail
  go_ret
  exact ⟨rfl, (Kept.refl _ w).alloc _⟩

set_option maxRecDepth 100000 in
set_option maxHeartbeats 2000000 in
theorem count_4 (c : CfgD) (h : c.Bd) (w : World) : Calls Try.prog 84 #[cfgV c, .int .i64 4] w fun e w' => e = .returned (.int .i64 (c.t)) ∧ Kept (fun _ => False) w w' := by
  have HH := Lib.hid h
  obtain ⟨t1, t8, b1, b64, w0, w64, l0, l1, w3, w5, s0, s1⟩ := h
  unfold cfgV
  go_enter Try.func84, Try.ntmps84
  go_wp2_with fail
  go_ret
  exact ⟨rfl, (Kept.refl _ w).alloc _⟩

set_option maxRecDepth 100000 in
set_option maxHeartbeats 2000000 in
theorem each_4 (c : CfgD) (h : c.Bd) (w : World) : Calls Try.prog 85 #[cfgV c, .int .i64 4] w fun e w' => e = .returned (.int .i64 (1)) ∧ Kept (fun _ => False) w w' := by
  have HH := Lib.hid h
  obtain ⟨t1, t8, b1, b64, w0, w64, l0, l1, w3, w5, s0, s1⟩ := h
  unfold cfgV
  go_enter Try.func85, Try.ntmps85
  go_wp2_with fail
  go_ret
  exact ⟨rfl, (Kept.refl _ w).alloc _⟩

set_option maxRecDepth 100000 in
set_option maxHeartbeats 2000000 in
theorem count_5 (c : CfgD) (h : c.Bd) (w : World) : Calls Try.prog 84 #[cfgV c, .int .i64 5] w fun e w' => e = .returned (.int .i64 (c.t)) ∧ Kept (fun _ => False) w w' := by
  have HH := Lib.hid h
  obtain ⟨t1, t8, b1, b64, w0, w64, l0, l1, w3, w5, s0, s1⟩ := h
  unfold cfgV
  go_enter Try.func84, Try.ntmps84
  go_wp2_with fail
  go_ret
  exact ⟨rfl, (Kept.refl _ w).alloc _⟩

set_option maxRecDepth 100000 in
set_option maxHeartbeats 2000000 in
theorem each_5 (c : CfgD) (h : c.Bd) (w : World) : Calls Try.prog 85 #[cfgV c, .int .i64 5] w fun e w' => e = .returned (.int .i64 (1)) ∧ Kept (fun _ => False) w w' := by
  have HH := Lib.hid h
  obtain ⟨t1, t8, b1, b64, w0, w64, l0, l1, w3, w5, s0, s1⟩ := h
  unfold cfgV
  go_enter Try.func85, Try.ntmps85
  go_wp2_with fail
  go_ret
  exact ⟨rfl, (Kept.refl _ w).alloc _⟩

set_option maxRecDepth 100000 in
set_option maxHeartbeats 2000000 in
theorem count_6 (c : CfgD) (h : c.Bd) (w : World) : Calls Try.prog 84 #[cfgV c, .int .i64 6] w fun e w' => e = .returned (.int .i64 (c.t)) ∧ Kept (fun _ => False) w w' := by
  have HH := Lib.hid h
  obtain ⟨t1, t8, b1, b64, w0, w64, l0, l1, w3, w5, s0, s1⟩ := h
  unfold cfgV
  go_enter Try.func84, Try.ntmps84
  go_wp2_with fail
  go_ret
  exact ⟨rfl, (Kept.refl _ w).alloc _⟩

set_option maxRecDepth 100000 in
set_option maxHeartbeats 2000000 in
theorem each_6 (c : CfgD) (h : c.Bd) (w : World) : Calls Try.prog 85 #[cfgV c, .int .i64 6] w fun e w' => e = .returned (.int .i64 (c.cap)) ∧ Kept (fun _ => False) w w' := by
  have HH := Lib.hid h
  obtain ⟨t1, t8, b1, b64, w0, w64, l0, l1, w3, w5, s0, s1⟩ := h
  unfold cfgV
  go_enter Try.func85, Try.ntmps85
  go_wp2_with (go_at_call 96; (refine (rCap c HH.out _).mono ?_); rintro e w1 ⟨rfl, hk⟩; have hK := ((Kept.refl (fun _ => False) w).alloc (.cells #[.int .i64 c.t, .int .i64 c.b, .int .i64 c.wr, .int .i64 c.f, .int .u64 c.first, .int .u64 c.last] 24)).trans hk; clear hk)
  go_ret
  exact ⟨rfl, hK⟩

set_option maxRecDepth 100000 in
set_option maxHeartbeats 2000000 in
theorem count_7 (c : CfgD) (h : c.Bd) (w : World) : Calls Try.prog 84 #[cfgV c, .int .i64 7] w fun e w' => e = .returned (.int .i64 (c.t)) ∧ Kept (fun _ => False) w w' := by
  have HH := Lib.hid h
  obtain ⟨t1, t8, b1, b64, w0, w64, l0, l1, w3, w5, s0, s1⟩ := h
  unfold cfgV
  go_enter Try.func84, Try.ntmps84
  go_wp2_with fail
  go_ret
  exact ⟨rfl, (Kept.refl _ w).alloc _⟩

set_option maxRecDepth 100000 in
set_option maxHeartbeats 2000000 in
theorem each_7 (c : CfgD) (h : c.Bd) (w : World) : Calls Try.prog 85 #[cfgV c, .int .i64 7] w fun e w' => e = .returned (.int .i64 (1)) ∧ Kept (fun _ => False) w w' := by
  have HH := Lib.hid h
  obtain ⟨t1, t8, b1, b64, w0, w64, l0, l1, w3, w5, s0, s1⟩ := h
  unfold cfgV
  go_enter Try.func85, Try.ntmps85
  go_wp2_with fail
  go_ret
  exact ⟨rfl, (Kept.refl _ w).alloc _⟩

set_option maxRecDepth 100000 in
set_option maxHeartbeats 2000000 in
theorem count_8 (c : CfgD) (h : c.Bd) (w : World) : Calls Try.prog 84 #[cfgV c, .int .i64 8] w fun e w' => e = .returned (.int .i64 (c.t)) ∧ Kept (fun _ => False) w w' := by
  have HH := Lib.hid h
  obtain ⟨t1, t8, b1, b64, w0, w64, l0, l1, w3, w5, s0, s1⟩ := h
  unfold cfgV
  go_enter Try.func84, Try.ntmps84
  go_wp2_with fail
  go_ret
  exact ⟨rfl, (Kept.refl _ w).alloc _⟩

set_option maxRecDepth 100000 in
set_option maxHeartbeats 2000000 in
theorem each_8 (c : CfgD) (h : c.Bd) (w : World) : Calls Try.prog 85 #[cfgV c, .int .i64 8] w fun e w' => e = .returned (.int .i64 (1)) ∧ Kept (fun _ => False) w w' := by
  have HH := Lib.hid h
  obtain ⟨t1, t8, b1, b64, w0, w64, l0, l1, w3, w5, s0, s1⟩ := h
  unfold cfgV
  go_enter Try.func85, Try.ntmps85
  go_wp2_with fail
  go_ret
  exact ⟨rfl, (Kept.refl _ w).alloc _⟩

set_option maxRecDepth 100000 in
set_option maxHeartbeats 2000000 in
theorem count_9 (c : CfgD) (h : c.Bd) (w : World) : Calls Try.prog 84 #[cfgV c, .int .i64 9] w fun e w' => e = .returned (.int .i64 (c.t)) ∧ Kept (fun _ => False) w w' := by
  have HH := Lib.hid h
  obtain ⟨t1, t8, b1, b64, w0, w64, l0, l1, w3, w5, s0, s1⟩ := h
  unfold cfgV
  go_enter Try.func84, Try.ntmps84
  go_wp2_with fail
  go_ret
  exact ⟨rfl, (Kept.refl _ w).alloc _⟩

set_option maxRecDepth 100000 in
set_option maxHeartbeats 2000000 in
theorem each_9 (c : CfgD) (h : c.Bd) (w : World) : Calls Try.prog 85 #[cfgV c, .int .i64 9] w fun e w' => e = .returned (.int .i64 (1)) ∧ Kept (fun _ => False) w w' := by
  have HH := Lib.hid h
  obtain ⟨t1, t8, b1, b64, w0, w64, l0, l1, w3, w5, s0, s1⟩ := h
  unfold cfgV
  go_enter Try.func85, Try.ntmps85
  go_wp2_with fail
  go_ret
  exact ⟨rfl, (Kept.refl _ w).alloc _⟩

set_option maxRecDepth 100000 in
set_option maxHeartbeats 2000000 in
theorem count_10 (c : CfgD) (h : c.Bd) (w : World) : Calls Try.prog 84 #[cfgV c, .int .i64 10] w fun e w' => e = .returned (.int .i64 (16)) ∧ Kept (fun _ => False) w w' := by
  have HH := Lib.hid h
  obtain ⟨t1, t8, b1, b64, w0, w64, l0, l1, w3, w5, s0, s1⟩ := h
  unfold cfgV
  go_enter Try.func84, Try.ntmps84
  go_wp2_with fail
  go_ret
  exact ⟨rfl, (Kept.refl _ w).alloc _⟩

set_option maxRecDepth 100000 in
set_option maxHeartbeats 2000000 in
theorem each_10 (c : CfgD) (h : c.Bd) (w : World) : Calls Try.prog 85 #[cfgV c, .int .i64 10] w fun e w' => e = .returned (.int .i64 (1)) ∧ Kept (fun _ => False) w w' := by
  have HH := Lib.hid h
  obtain ⟨t1, t8, b1, b64, w0, w64, l0, l1, w3, w5, s0, s1⟩ := h
  unfold cfgV
  go_enter Try.func85, Try.ntmps85
  go_wp2_with fail
  go_ret
  exact ⟨rfl, (Kept.refl _ w).alloc _⟩

set_option maxRecDepth 100000 in
set_option maxHeartbeats 2000000 in
theorem count_11 (c : CfgD) (h : c.Bd) (w : World) : Calls Try.prog 84 #[cfgV c, .int .i64 11] w fun e w' => e = .returned (.int .i64 (c.b)) ∧ Kept (fun _ => False) w w' := by
  have HH := Lib.hid h
  obtain ⟨t1, t8, b1, b64, w0, w64, l0, l1, w3, w5, s0, s1⟩ := h
  unfold cfgV
  go_enter Try.func84, Try.ntmps84
  go_wp2_with fail
  go_ret
  exact ⟨rfl, (Kept.refl _ w).alloc _⟩

set_option maxRecDepth 100000 in
set_option maxHeartbeats 2000000 in
theorem each_11 (c : CfgD) (h : c.Bd) (w : World) : Calls Try.prog 85 #[cfgV c, .int .i64 11] w fun e w' => e = .returned (.int .i64 (1)) ∧ Kept (fun _ => False) w w' := by
  have HH := Lib.hid h
  obtain ⟨t1, t8, b1, b64, w0, w64, l0, l1, w3, w5, s0, s1⟩ := h
  unfold cfgV
  go_enter Try.func85, Try.ntmps85
  go_wp2_with fail
  go_ret
  exact ⟨rfl, (Kept.refl _ w).alloc _⟩

set_option maxRecDepth 100000 in
set_option maxHeartbeats 2000000 in
theorem count_12 (c : CfgD) (h : c.Bd) (w : World) : Calls Try.prog 84 #[cfgV c, .int .i64 12] w fun e w' => e = .returned (.int .i64 (1)) ∧ Kept (fun _ => False) w w' := by
  have HH := Lib.hid h
  obtain ⟨t1, t8, b1, b64, w0, w64, l0, l1, w3, w5, s0, s1⟩ := h
  unfold cfgV
  go_enter Try.func84, Try.ntmps84
  go_wp2_with fail
  go_ret
  exact ⟨rfl, (Kept.refl _ w).alloc _⟩

set_option maxRecDepth 100000 in
set_option maxHeartbeats 2000000 in
theorem each_12 (c : CfgD) (h : c.Bd) (w : World) : Calls Try.prog 85 #[cfgV c, .int .i64 12] w fun e w' => e = .returned (.int .i64 (1)) ∧ Kept (fun _ => False) w w' := by
  have HH := Lib.hid h
  obtain ⟨t1, t8, b1, b64, w0, w64, l0, l1, w3, w5, s0, s1⟩ := h
  unfold cfgV
  go_enter Try.func85, Try.ntmps85
  go_wp2_with fail
  go_ret
  exact ⟨rfl, (Kept.refl _ w).alloc _⟩

set_option maxRecDepth 100000 in
set_option maxHeartbeats 2000000 in
theorem count_13 (c : CfgD) (h : c.Bd) (w : World) : Calls Try.prog 84 #[cfgV c, .int .i64 13] w fun e w' => e = .returned (.int .i64 (c.b)) ∧ Kept (fun _ => False) w w' := by
  have HH := Lib.hid h
  obtain ⟨t1, t8, b1, b64, w0, w64, l0, l1, w3, w5, s0, s1⟩ := h
  unfold cfgV
  go_enter Try.func84, Try.ntmps84
  go_wp2_with fail
  go_ret
  exact ⟨rfl, (Kept.refl _ w).alloc _⟩

set_option maxRecDepth 100000 in
set_option maxHeartbeats 2000000 in
theorem each_13 (c : CfgD) (h : c.Bd) (w : World) : Calls Try.prog 85 #[cfgV c, .int .i64 13] w fun e w' => e = .returned (.int .i64 (1)) ∧ Kept (fun _ => False) w w' := by
  have HH := Lib.hid h
  obtain ⟨t1, t8, b1, b64, w0, w64, l0, l1, w3, w5, s0, s1⟩ := h
  unfold cfgV
  go_enter Try.func85, Try.ntmps85
  go_wp2_with fail
  go_ret
  exact ⟨rfl, (Kept.refl _ w).alloc _⟩

set_option maxRecDepth 100000 in
set_option maxHeartbeats 2000000 in
theorem count_14 (c : CfgD) (h : c.Bd) (w : World) : Calls Try.prog 84 #[cfgV c, .int .i64 14] w fun e w' => e = .returned (.int .i64 (1)) ∧ Kept (fun _ => False) w w' := by
  have HH := Lib.hid h
  obtain ⟨t1, t8, b1, b64, w0, w64, l0, l1, w3, w5, s0, s1⟩ := h
  unfold cfgV
  go_enter Try.func84, Try.ntmps84
  go_wp2_with fail
  go_ret
  exact ⟨rfl, (Kept.refl _ w).alloc _⟩

set_option maxRecDepth 100000 in
set_option maxHeartbeats 2000000 in
theorem each_14 (c : CfgD) (h : c.Bd) (w : World) : Calls Try.prog 85 #[cfgV c, .int .i64 14] w fun e w' => e = .returned (.int .i64 (1)) ∧ Kept (fun _ => False) w w' := by
  have HH := Lib.hid h
  obtain ⟨t1, t8, b1, b64, w0, w64, l0, l1, w3, w5, s0, s1⟩ := h
  unfold cfgV
  go_enter Try.func85, Try.ntmps85
  go_wp2_with fail
  go_ret
  exact ⟨rfl, (Kept.refl _ w).alloc _⟩

set_option maxRecDepth 100000 in
set_option maxHeartbeats 2000000 in
theorem count_15 (c : CfgD) (h : c.Bd) (w : World) : Calls Try.prog 84 #[cfgV c, .int .i64 15] w fun e w' => e = .returned (.int .i64 (c.lim)) ∧ Kept (fun _ => False) w w' := by
  have HH := Lib.hid h
  obtain ⟨t1, t8, b1, b64, w0, w64, l0, l1, w3, w5, s0, s1⟩ := h
  unfold cfgV
  go_enter Try.func84, Try.ntmps84
  go_wp2_with (go_at_call 46; (refine (rLimit c HH.out _).mono ?_); rintro e w1 ⟨rfl, hk⟩; have hK := ((Kept.refl (fun _ => False) w).alloc (.cells #[.int .i64 c.t, .int .i64 c.b, .int .i64 c.wr, .int .i64 c.f, .int .u64 c.first, .int .u64 c.last] 24)).trans hk; clear hk)
  go_ret
  exact ⟨rfl, hK⟩

set_option maxRecDepth 100000 in
set_option maxHeartbeats 2000000 in
theorem each_15 (c : CfgD) (h : c.Bd) (w : World) : Calls Try.prog 85 #[cfgV c, .int .i64 15] w fun e w' => e = .returned (.int .i64 (1)) ∧ Kept (fun _ => False) w w' := by
  have HH := Lib.hid h
  obtain ⟨t1, t8, b1, b64, w0, w64, l0, l1, w3, w5, s0, s1⟩ := h
  unfold cfgV
  go_enter Try.func85, Try.ntmps85
  go_wp2_with fail
  go_ret
  exact ⟨rfl, (Kept.refl _ w).alloc _⟩

set_option maxRecDepth 100000 in
set_option maxHeartbeats 2000000 in
theorem count_16 (c : CfgD) (h : c.Bd) (w : World) : Calls Try.prog 84 #[cfgV c, .int .i64 16] w fun e w' => e = .returned (.int .i64 (c.b)) ∧ Kept (fun _ => False) w w' := by
  have HH := Lib.hid h
  obtain ⟨t1, t8, b1, b64, w0, w64, l0, l1, w3, w5, s0, s1⟩ := h
  unfold cfgV
  go_enter Try.func84, Try.ntmps84
  go_wp2_with fail
  go_ret
  exact ⟨rfl, (Kept.refl _ w).alloc _⟩

set_option maxRecDepth 100000 in
set_option maxHeartbeats 2000000 in
theorem each_16 (c : CfgD) (h : c.Bd) (w : World) : Calls Try.prog 85 #[cfgV c, .int .i64 16] w fun e w' => e = .returned (.int .i64 (8)) ∧ Kept (fun _ => False) w w' := by
  have HH := Lib.hid h
  obtain ⟨t1, t8, b1, b64, w0, w64, l0, l1, w3, w5, s0, s1⟩ := h
  unfold cfgV
  go_enter Try.func85, Try.ntmps85
  go_wp2_with fail
  go_ret
  exact ⟨rfl, (Kept.refl _ w).alloc _⟩

theorem count_calls (c : CfgD) (h : c.Bd) (k : Nat) (hk : k < 17) (w : World) : Calls Try.prog 84 #[cfgV c, .int .i64 (k : Int)] w fun e w' => e = .returned (.int .i64 (c.things k)) ∧ Kept (fun _ => False) w w' := by
  match k, hk with
  | 0, _ => exact count_0 c h w
  | 1, _ => exact count_1 c h w
  | 2, _ => exact count_2 c h w
  | 3, _ => exact count_3 c h w
  | 4, _ => exact count_4 c h w
  | 5, _ => exact count_5 c h w
  | 6, _ => exact count_6 c h w
  | 7, _ => exact count_7 c h w
  | 8, _ => exact count_8 c h w
  | 9, _ => exact count_9 c h w
  | 10, _ => exact count_10 c h w
  | 11, _ => exact count_11 c h w
  | 12, _ => exact count_12 c h w
  | 13, _ => exact count_13 c h w
  | 14, _ => exact count_14 c h w
  | 15, _ => exact count_15 c h w
  | 16, _ => exact count_16 c h w
  | n + 17, hn => omega
theorem each_calls (c : CfgD) (h : c.Bd) (k : Nat) (hk : k < 17) (w : World) : Calls Try.prog 85 #[cfgV c, .int .i64 (k : Int)] w fun e w' => e = .returned (.int .i64 (c.places k)) ∧ Kept (fun _ => False) w w' := by
  match k, hk with
  | 0, _ => exact each_0 c h w
  | 1, _ => exact each_1 c h w
  | 2, _ => exact each_2 c h w
  | 3, _ => exact each_3 c h w
  | 4, _ => exact each_4 c h w
  | 5, _ => exact each_5 c h w
  | 6, _ => exact each_6 c h w
  | 7, _ => exact each_7 c h w
  | 8, _ => exact each_8 c h w
  | 9, _ => exact each_9 c h w
  | 10, _ => exact each_10 c h w
  | 11, _ => exact each_11 c h w
  | 12, _ => exact each_12 c h w
  | 13, _ => exact each_13 c h w
  | 14, _ => exact each_14 c h w
  | 15, _ => exact each_15 c h w
  | 16, _ => exact each_16 c h w
  | n + 17, hn => omega

set_option maxRecDepth 100000 in
set_option maxHeartbeats 2000000 in
theorem from_0 (c : CfgD) (h : c.Bd) (w : World) : Calls Try.prog 87 #[cfgV c, .int .i64 0] w fun e w' => e = .returned (.int .i64 (0)) ∧ Kept (fun _ => False) w w' := by
  have HH := Lib.hid h
  obtain ⟨t1, t8, b1, b64, w0, w64, l0, l1, w3, w5, s0, s1⟩ := h
  have hA : c.ans = 1 + c.ts := rfl
  have hR : c.root = c.ans + c.t * 3 := rfl
  have hL : c.life = c.root + 16 := rfl
  have hT : c.top = c.life + c.b := rfl
  have hSt : c.stack = c.top + 1 := rfl
  have hLp : c.limp = c.stack + c.b := rfl
  have hLb : c.limbo = c.limp + 1 := rfl
  have hW : c.word = c.limbo + c.lim := rfl
  have hZ : c.size = c.word + c.b * 8 := rfl
  unfold cfgV
  go_enter Try.func87, Try.ntmps87
  go_wp2_with fail
  go_ret
  exact ⟨rfl, (Kept.refl _ w).alloc _⟩

set_option maxRecDepth 100000 in
set_option maxHeartbeats 2000000 in
theorem from_1 (c : CfgD) (h : c.Bd) (w : World) : Calls Try.prog 87 #[cfgV c, .int .i64 1] w fun e w' => e = .returned (.int .i64 (1)) ∧ Kept (fun _ => False) w w' := by
  have HH := Lib.hid h
  obtain ⟨t1, t8, b1, b64, w0, w64, l0, l1, w3, w5, s0, s1⟩ := h
  have hA : c.ans = 1 + c.ts := rfl
  have hR : c.root = c.ans + c.t * 3 := rfl
  have hL : c.life = c.root + 16 := rfl
  have hT : c.top = c.life + c.b := rfl
  have hSt : c.stack = c.top + 1 := rfl
  have hLp : c.limp = c.stack + c.b := rfl
  have hLb : c.limbo = c.limp + 1 := rfl
  have hW : c.word = c.limbo + c.lim := rfl
  have hZ : c.size = c.word + c.b * 8 := rfl
  unfold cfgV
  go_enter Try.func87, Try.ntmps87
  go_wp2_with fail
  go_ret
  exact ⟨rfl, (Kept.refl _ w).alloc _⟩

set_option maxRecDepth 100000 in
set_option maxHeartbeats 2000000 in
theorem from_2 (c : CfgD) (h : c.Bd) (w : World) : Calls Try.prog 87 #[cfgV c, .int .i64 2] w fun e w' => e = .returned (.int .i64 (2)) ∧ Kept (fun _ => False) w w' := by
  have HH := Lib.hid h
  obtain ⟨t1, t8, b1, b64, w0, w64, l0, l1, w3, w5, s0, s1⟩ := h
  have hA : c.ans = 1 + c.ts := rfl
  have hR : c.root = c.ans + c.t * 3 := rfl
  have hL : c.life = c.root + 16 := rfl
  have hT : c.top = c.life + c.b := rfl
  have hSt : c.stack = c.top + 1 := rfl
  have hLp : c.limp = c.stack + c.b := rfl
  have hLb : c.limbo = c.limp + 1 := rfl
  have hW : c.word = c.limbo + c.lim := rfl
  have hZ : c.size = c.word + c.b * 8 := rfl
  unfold cfgV
  go_enter Try.func87, Try.ntmps87
  go_wp2_with fail
  go_region_held3 (fun w' => w'.cell? ⟨w.heap.size, 0, none⟩ = some (.int .i64 c.t) ∧ w'.cell? ⟨w.heap.size, 1, none⟩ = some (.int .i64 c.b) ∧ w'.cell? ⟨w.heap.size, 2, none⟩ = some (.int .i64 c.wr) ∧ w'.cell? ⟨w.heap.size, 3, none⟩ = some (.int .i64 c.f) ∧ w'.cell? ⟨w.heap.size, 4, none⟩ = some (.int .u64 c.first) ∧ w'.cell? ⟨w.heap.size, 5, none⟩ = some (.int .u64 c.last))
    (first | assumption | exact ⟨hC3.cell 0, hC3.cell 1, hC3.cell 2, hC3.cell 3, hC3.cell 4, hC3.cell 5⟩ | exact ⟨hC2.cell 0, hC2.cell 1, hC2.cell 2, hC2.cell 3, hC2.cell 4, hC2.cell 5⟩ | exact ⟨hC1.cell 0, hC1.cell 1, hC1.cell 2, hC1.cell 3, hC1.cell 4, hC1.cell 5⟩ | exact ⟨(Blk.drew (Blk.new _ _ _)).cell 0, (Blk.drew (Blk.new _ _ _)).cell 1, (Blk.drew (Blk.new _ _ _)).cell 2, (Blk.drew (Blk.new _ _ _)).cell 3, (Blk.drew (Blk.new _ _ _)).cell 4, (Blk.drew (Blk.new _ _ _)).cell 5⟩)
    (first | (go_at_call 85; (refine (each_1 c HH.out _).mono ?_); rintro e w2 ⟨rfl, hk⟩; have hC2 : Blk w2 w.heap.size 24 #[.int .i64 c.t, .int .i64 c.b, .int .i64 c.wr, .int .i64 c.f, .int .u64 c.first, .int .u64 c.last] := hk.blk hC1 (fun h => h); have hK2 := hK1.trans hk; clear hk) | (go_at_call 87; (refine (from_1 c HH.out _).mono ?_); rintro e w1 ⟨rfl, hk⟩; have hC1 : Blk w1 w.heap.size 24 #[.int .i64 c.t, .int .i64 c.b, .int .i64 c.wr, .int .i64 c.f, .int .u64 c.first, .int .u64 c.last] := hk.blk (Blk.drew (Blk.new _ _ _)) (fun h => h); have hK1 := (((Kept.refl (fun _ => False) w).alloc _).drew).trans hk; clear hk))
  go_wp2_with fail
  go_ret
  exact ⟨ret_i (by simp only [IntKind.wrap_i64]; omega), hK2⟩

set_option maxRecDepth 100000 in
set_option maxHeartbeats 2000000 in
theorem from_3 (c : CfgD) (h : c.Bd) (w : World) : Calls Try.prog 87 #[cfgV c, .int .i64 3] w fun e w' => e = .returned (.int .i64 (6)) ∧ Kept (fun _ => False) w w' := by
  have HH := Lib.hid h
  obtain ⟨t1, t8, b1, b64, w0, w64, l0, l1, w3, w5, s0, s1⟩ := h
  have hA : c.ans = 1 + c.ts := rfl
  have hR : c.root = c.ans + c.t * 3 := rfl
  have hL : c.life = c.root + 16 := rfl
  have hT : c.top = c.life + c.b := rfl
  have hSt : c.stack = c.top + 1 := rfl
  have hLp : c.limp = c.stack + c.b := rfl
  have hLb : c.limbo = c.limp + 1 := rfl
  have hW : c.word = c.limbo + c.lim := rfl
  have hZ : c.size = c.word + c.b * 8 := rfl
  unfold cfgV
  go_enter Try.func87, Try.ntmps87
  go_wp2_with fail
  go_region_held3 (fun w' => w'.cell? ⟨w.heap.size, 0, none⟩ = some (.int .i64 c.t) ∧ w'.cell? ⟨w.heap.size, 1, none⟩ = some (.int .i64 c.b) ∧ w'.cell? ⟨w.heap.size, 2, none⟩ = some (.int .i64 c.wr) ∧ w'.cell? ⟨w.heap.size, 3, none⟩ = some (.int .i64 c.f) ∧ w'.cell? ⟨w.heap.size, 4, none⟩ = some (.int .u64 c.first) ∧ w'.cell? ⟨w.heap.size, 5, none⟩ = some (.int .u64 c.last))
    (first | assumption | exact ⟨hC3.cell 0, hC3.cell 1, hC3.cell 2, hC3.cell 3, hC3.cell 4, hC3.cell 5⟩ | exact ⟨hC2.cell 0, hC2.cell 1, hC2.cell 2, hC2.cell 3, hC2.cell 4, hC2.cell 5⟩ | exact ⟨hC1.cell 0, hC1.cell 1, hC1.cell 2, hC1.cell 3, hC1.cell 4, hC1.cell 5⟩ | exact ⟨(Blk.drew (Blk.new _ _ _)).cell 0, (Blk.drew (Blk.new _ _ _)).cell 1, (Blk.drew (Blk.new _ _ _)).cell 2, (Blk.drew (Blk.new _ _ _)).cell 3, (Blk.drew (Blk.new _ _ _)).cell 4, (Blk.drew (Blk.new _ _ _)).cell 5⟩)
    (first | (go_at_call 85; (refine (each_2 c HH.out _).mono ?_); rintro e w2 ⟨rfl, hk⟩; have hC2 : Blk w2 w.heap.size 24 #[.int .i64 c.t, .int .i64 c.b, .int .i64 c.wr, .int .i64 c.f, .int .u64 c.first, .int .u64 c.last] := hk.blk hC1 (fun h => h); have hK2 := hK1.trans hk; clear hk) | (go_at_call 87; (refine (from_2 c HH.out _).mono ?_); rintro e w1 ⟨rfl, hk⟩; have hC1 : Blk w1 w.heap.size 24 #[.int .i64 c.t, .int .i64 c.b, .int .i64 c.wr, .int .i64 c.f, .int .u64 c.first, .int .u64 c.last] := hk.blk (Blk.drew (Blk.new _ _ _)) (fun h => h); have hK1 := (((Kept.refl (fun _ => False) w).alloc _).drew).trans hk; clear hk))
  go_wp2_with fail
  go_ret
  exact ⟨ret_i (by simp only [IntKind.wrap_i64]; omega), hK2⟩

set_option maxRecDepth 100000 in
set_option maxHeartbeats 2000000 in
theorem from_4 (c : CfgD) (h : c.Bd) (w : World) : Calls Try.prog 87 #[cfgV c, .int .i64 4] w fun e w' => e = .returned (.int .i64 (7)) ∧ Kept (fun _ => False) w w' := by
  have HH := Lib.hid h
  obtain ⟨t1, t8, b1, b64, w0, w64, l0, l1, w3, w5, s0, s1⟩ := h
  have hA : c.ans = 1 + c.ts := rfl
  have hR : c.root = c.ans + c.t * 3 := rfl
  have hL : c.life = c.root + 16 := rfl
  have hT : c.top = c.life + c.b := rfl
  have hSt : c.stack = c.top + 1 := rfl
  have hLp : c.limp = c.stack + c.b := rfl
  have hLb : c.limbo = c.limp + 1 := rfl
  have hW : c.word = c.limbo + c.lim := rfl
  have hZ : c.size = c.word + c.b * 8 := rfl
  unfold cfgV
  go_enter Try.func87, Try.ntmps87
  go_wp2_with fail
  go_region_held3 (fun w' => w'.cell? ⟨w.heap.size, 0, none⟩ = some (.int .i64 c.t) ∧ w'.cell? ⟨w.heap.size, 1, none⟩ = some (.int .i64 c.b) ∧ w'.cell? ⟨w.heap.size, 2, none⟩ = some (.int .i64 c.wr) ∧ w'.cell? ⟨w.heap.size, 3, none⟩ = some (.int .i64 c.f) ∧ w'.cell? ⟨w.heap.size, 4, none⟩ = some (.int .u64 c.first) ∧ w'.cell? ⟨w.heap.size, 5, none⟩ = some (.int .u64 c.last))
    (first | assumption | exact ⟨hC3.cell 0, hC3.cell 1, hC3.cell 2, hC3.cell 3, hC3.cell 4, hC3.cell 5⟩ | exact ⟨hC2.cell 0, hC2.cell 1, hC2.cell 2, hC2.cell 3, hC2.cell 4, hC2.cell 5⟩ | exact ⟨hC1.cell 0, hC1.cell 1, hC1.cell 2, hC1.cell 3, hC1.cell 4, hC1.cell 5⟩ | exact ⟨(Blk.drew (Blk.new _ _ _)).cell 0, (Blk.drew (Blk.new _ _ _)).cell 1, (Blk.drew (Blk.new _ _ _)).cell 2, (Blk.drew (Blk.new _ _ _)).cell 3, (Blk.drew (Blk.new _ _ _)).cell 4, (Blk.drew (Blk.new _ _ _)).cell 5⟩)
    (first | (go_at_call 85; (refine (each_3 c HH.out _).mono ?_); rintro e w2 ⟨rfl, hk⟩; have hC2 : Blk w2 w.heap.size 24 #[.int .i64 c.t, .int .i64 c.b, .int .i64 c.wr, .int .i64 c.f, .int .u64 c.first, .int .u64 c.last] := hk.blk hC1 (fun h => h); have hK2 := hK1.trans hk; clear hk) | (go_at_call 87; (refine (from_3 c HH.out _).mono ?_); rintro e w1 ⟨rfl, hk⟩; have hC1 : Blk w1 w.heap.size 24 #[.int .i64 c.t, .int .i64 c.b, .int .i64 c.wr, .int .i64 c.f, .int .u64 c.first, .int .u64 c.last] := hk.blk (Blk.drew (Blk.new _ _ _)) (fun h => h); have hK1 := (((Kept.refl (fun _ => False) w).alloc _).drew).trans hk; clear hk))
  go_wp2_with fail
  go_ret
  exact ⟨ret_i (by simp only [IntKind.wrap_i64]; omega), hK2⟩

set_option maxRecDepth 100000 in
set_option maxHeartbeats 2000000 in
theorem from_5 (c : CfgD) (h : c.Bd) (w : World) : Calls Try.prog 87 #[cfgV c, .int .i64 5] w fun e w' => e = .returned (.int .i64 (8)) ∧ Kept (fun _ => False) w w' := by
  have HH := Lib.hid h
  obtain ⟨t1, t8, b1, b64, w0, w64, l0, l1, w3, w5, s0, s1⟩ := h
  have hA : c.ans = 1 + c.ts := rfl
  have hR : c.root = c.ans + c.t * 3 := rfl
  have hL : c.life = c.root + 16 := rfl
  have hT : c.top = c.life + c.b := rfl
  have hSt : c.stack = c.top + 1 := rfl
  have hLp : c.limp = c.stack + c.b := rfl
  have hLb : c.limbo = c.limp + 1 := rfl
  have hW : c.word = c.limbo + c.lim := rfl
  have hZ : c.size = c.word + c.b * 8 := rfl
  unfold cfgV
  go_enter Try.func87, Try.ntmps87
  go_wp2_with fail
  go_region_held3 (fun w' => w'.cell? ⟨w.heap.size, 0, none⟩ = some (.int .i64 c.t) ∧ w'.cell? ⟨w.heap.size, 1, none⟩ = some (.int .i64 c.b) ∧ w'.cell? ⟨w.heap.size, 2, none⟩ = some (.int .i64 c.wr) ∧ w'.cell? ⟨w.heap.size, 3, none⟩ = some (.int .i64 c.f) ∧ w'.cell? ⟨w.heap.size, 4, none⟩ = some (.int .u64 c.first) ∧ w'.cell? ⟨w.heap.size, 5, none⟩ = some (.int .u64 c.last))
    (first | assumption | exact ⟨hC3.cell 0, hC3.cell 1, hC3.cell 2, hC3.cell 3, hC3.cell 4, hC3.cell 5⟩ | exact ⟨hC2.cell 0, hC2.cell 1, hC2.cell 2, hC2.cell 3, hC2.cell 4, hC2.cell 5⟩ | exact ⟨hC1.cell 0, hC1.cell 1, hC1.cell 2, hC1.cell 3, hC1.cell 4, hC1.cell 5⟩ | exact ⟨(Blk.drew (Blk.new _ _ _)).cell 0, (Blk.drew (Blk.new _ _ _)).cell 1, (Blk.drew (Blk.new _ _ _)).cell 2, (Blk.drew (Blk.new _ _ _)).cell 3, (Blk.drew (Blk.new _ _ _)).cell 4, (Blk.drew (Blk.new _ _ _)).cell 5⟩)
    (first | (go_at_call 85; (refine (each_4 c HH.out _).mono ?_); rintro e w2 ⟨rfl, hk⟩; have hC2 : Blk w2 w.heap.size 24 #[.int .i64 c.t, .int .i64 c.b, .int .i64 c.wr, .int .i64 c.f, .int .u64 c.first, .int .u64 c.last] := hk.blk hC1 (fun h => h); have hK2 := hK1.trans hk; clear hk) | (go_at_call 87; (refine (from_4 c HH.out _).mono ?_); rintro e w1 ⟨rfl, hk⟩; have hC1 : Blk w1 w.heap.size 24 #[.int .i64 c.t, .int .i64 c.b, .int .i64 c.wr, .int .i64 c.f, .int .u64 c.first, .int .u64 c.last] := hk.blk (Blk.drew (Blk.new _ _ _)) (fun h => h); have hK1 := (((Kept.refl (fun _ => False) w).alloc _).drew).trans hk; clear hk))
  go_wp2_with fail
  go_ret
  exact ⟨ret_i (by simp only [IntKind.wrap_i64]; omega), hK2⟩

set_option maxRecDepth 100000 in
set_option maxHeartbeats 2000000 in
theorem from_6 (c : CfgD) (h : c.Bd) (w : World) : Calls Try.prog 87 #[cfgV c, .int .i64 6] w fun e w' => e = .returned (.int .i64 (9)) ∧ Kept (fun _ => False) w w' := by
  have HH := Lib.hid h
  obtain ⟨t1, t8, b1, b64, w0, w64, l0, l1, w3, w5, s0, s1⟩ := h
  have hA : c.ans = 1 + c.ts := rfl
  have hR : c.root = c.ans + c.t * 3 := rfl
  have hL : c.life = c.root + 16 := rfl
  have hT : c.top = c.life + c.b := rfl
  have hSt : c.stack = c.top + 1 := rfl
  have hLp : c.limp = c.stack + c.b := rfl
  have hLb : c.limbo = c.limp + 1 := rfl
  have hW : c.word = c.limbo + c.lim := rfl
  have hZ : c.size = c.word + c.b * 8 := rfl
  unfold cfgV
  go_enter Try.func87, Try.ntmps87
  go_wp2_with fail
  go_region_held3 (fun w' => w'.cell? ⟨w.heap.size, 0, none⟩ = some (.int .i64 c.t) ∧ w'.cell? ⟨w.heap.size, 1, none⟩ = some (.int .i64 c.b) ∧ w'.cell? ⟨w.heap.size, 2, none⟩ = some (.int .i64 c.wr) ∧ w'.cell? ⟨w.heap.size, 3, none⟩ = some (.int .i64 c.f) ∧ w'.cell? ⟨w.heap.size, 4, none⟩ = some (.int .u64 c.first) ∧ w'.cell? ⟨w.heap.size, 5, none⟩ = some (.int .u64 c.last))
    (first | assumption | exact ⟨hC3.cell 0, hC3.cell 1, hC3.cell 2, hC3.cell 3, hC3.cell 4, hC3.cell 5⟩ | exact ⟨hC2.cell 0, hC2.cell 1, hC2.cell 2, hC2.cell 3, hC2.cell 4, hC2.cell 5⟩ | exact ⟨hC1.cell 0, hC1.cell 1, hC1.cell 2, hC1.cell 3, hC1.cell 4, hC1.cell 5⟩ | exact ⟨(Blk.drew (Blk.new _ _ _)).cell 0, (Blk.drew (Blk.new _ _ _)).cell 1, (Blk.drew (Blk.new _ _ _)).cell 2, (Blk.drew (Blk.new _ _ _)).cell 3, (Blk.drew (Blk.new _ _ _)).cell 4, (Blk.drew (Blk.new _ _ _)).cell 5⟩)
    (first | (go_at_call 85; (refine (each_5 c HH.out _).mono ?_); rintro e w2 ⟨rfl, hk⟩; have hC2 : Blk w2 w.heap.size 24 #[.int .i64 c.t, .int .i64 c.b, .int .i64 c.wr, .int .i64 c.f, .int .u64 c.first, .int .u64 c.last] := hk.blk hC1 (fun h => h); have hK2 := hK1.trans hk; clear hk) | (go_at_call 87; (refine (from_5 c HH.out _).mono ?_); rintro e w1 ⟨rfl, hk⟩; have hC1 : Blk w1 w.heap.size 24 #[.int .i64 c.t, .int .i64 c.b, .int .i64 c.wr, .int .i64 c.f, .int .u64 c.first, .int .u64 c.last] := hk.blk (Blk.drew (Blk.new _ _ _)) (fun h => h); have hK1 := (((Kept.refl (fun _ => False) w).alloc _).drew).trans hk; clear hk))
  go_wp2_with fail
  go_ret
  exact ⟨ret_i (by simp only [IntKind.wrap_i64]; omega), hK2⟩

set_option maxRecDepth 100000 in
set_option maxHeartbeats 2000000 in
theorem from_7 (c : CfgD) (h : c.Bd) (w : World) : Calls Try.prog 87 #[cfgV c, .int .i64 7] w fun e w' => e = .returned (.int .i64 (c.ans)) ∧ Kept (fun _ => False) w w' := by
  have HH := Lib.hid h
  obtain ⟨t1, t8, b1, b64, w0, w64, l0, l1, w3, w5, s0, s1⟩ := h
  have hA : c.ans = 1 + c.ts := rfl
  have hR : c.root = c.ans + c.t * 3 := rfl
  have hL : c.life = c.root + 16 := rfl
  have hT : c.top = c.life + c.b := rfl
  have hSt : c.stack = c.top + 1 := rfl
  have hLp : c.limp = c.stack + c.b := rfl
  have hLb : c.limbo = c.limp + 1 := rfl
  have hW : c.word = c.limbo + c.lim := rfl
  have hZ : c.size = c.word + c.b * 8 := rfl
  unfold cfgV
  go_enter Try.func87, Try.ntmps87
  go_wp2_with fail
  go_region_held3 (fun w' => w'.cell? ⟨w.heap.size, 0, none⟩ = some (.int .i64 c.t) ∧ w'.cell? ⟨w.heap.size, 1, none⟩ = some (.int .i64 c.b) ∧ w'.cell? ⟨w.heap.size, 2, none⟩ = some (.int .i64 c.wr) ∧ w'.cell? ⟨w.heap.size, 3, none⟩ = some (.int .i64 c.f) ∧ w'.cell? ⟨w.heap.size, 4, none⟩ = some (.int .u64 c.first) ∧ w'.cell? ⟨w.heap.size, 5, none⟩ = some (.int .u64 c.last))
    (first | assumption | exact ⟨hC3.cell 0, hC3.cell 1, hC3.cell 2, hC3.cell 3, hC3.cell 4, hC3.cell 5⟩ | exact ⟨hC2.cell 0, hC2.cell 1, hC2.cell 2, hC2.cell 3, hC2.cell 4, hC2.cell 5⟩ | exact ⟨hC1.cell 0, hC1.cell 1, hC1.cell 2, hC1.cell 3, hC1.cell 4, hC1.cell 5⟩ | exact ⟨(Blk.drew (Blk.new _ _ _)).cell 0, (Blk.drew (Blk.new _ _ _)).cell 1, (Blk.drew (Blk.new _ _ _)).cell 2, (Blk.drew (Blk.new _ _ _)).cell 3, (Blk.drew (Blk.new _ _ _)).cell 4, (Blk.drew (Blk.new _ _ _)).cell 5⟩)
    (first | (go_at_call 86; (refine (rStride c HH.out _).mono ?_); rintro e w1 ⟨rfl, hk⟩; have hC1 : Blk w1 w.heap.size 24 #[.int .i64 c.t, .int .i64 c.b, .int .i64 c.wr, .int .i64 c.f, .int .u64 c.first, .int .u64 c.last] := hk.blk (Blk.drew (Blk.new _ _ _)) (fun h => h); have hK1 := (((Kept.refl (fun _ => False) w).alloc _).drew).trans hk; clear hk))
  go_wp2_with fail
  go_ret
  have e1 : IntKind.i64.wrap (c.t * c.str) = c.ts := IntWalk.i64_in _ ⟨by have : c.t * c.str = c.ts := rfl; omega, by have : c.t * c.str = c.ts := rfl; omega⟩
  exact ⟨ret_i (by rw [e1, IntKind.wrap_i64]; omega), hK1⟩

set_option maxRecDepth 100000 in
set_option maxHeartbeats 2000000 in
theorem from_8 (c : CfgD) (h : c.Bd) (w : World) : Calls Try.prog 87 #[cfgV c, .int .i64 8] w fun e w' => e = .returned (.int .i64 (c.ans + 1)) ∧ Kept (fun _ => False) w w' := by
  have HH := Lib.hid h
  obtain ⟨t1, t8, b1, b64, w0, w64, l0, l1, w3, w5, s0, s1⟩ := h
  have hA : c.ans = 1 + c.ts := rfl
  have hR : c.root = c.ans + c.t * 3 := rfl
  have hL : c.life = c.root + 16 := rfl
  have hT : c.top = c.life + c.b := rfl
  have hSt : c.stack = c.top + 1 := rfl
  have hLp : c.limp = c.stack + c.b := rfl
  have hLb : c.limbo = c.limp + 1 := rfl
  have hW : c.word = c.limbo + c.lim := rfl
  have hZ : c.size = c.word + c.b * 8 := rfl
  unfold cfgV
  go_enter Try.func87, Try.ntmps87
  go_wp2_with (go_at_call 87; (refine (from_7 c HH.out _).mono ?_); rintro e w1 ⟨rfl, hk⟩; have hK := ((Kept.refl (fun _ => False) w).alloc (.cells #[.int .i64 c.t, .int .i64 c.b, .int .i64 c.wr, .int .i64 c.f, .int .u64 c.first, .int .u64 c.last] 24)).trans hk; clear hk)
  go_ret
  exact ⟨ret_i (by omega), hK⟩

set_option maxRecDepth 100000 in
set_option maxHeartbeats 2000000 in
theorem from_9 (c : CfgD) (h : c.Bd) (w : World) : Calls Try.prog 87 #[cfgV c, .int .i64 9] w fun e w' => e = .returned (.int .i64 (c.ans + 2)) ∧ Kept (fun _ => False) w w' := by
  have HH := Lib.hid h
  obtain ⟨t1, t8, b1, b64, w0, w64, l0, l1, w3, w5, s0, s1⟩ := h
  have hA : c.ans = 1 + c.ts := rfl
  have hR : c.root = c.ans + c.t * 3 := rfl
  have hL : c.life = c.root + 16 := rfl
  have hT : c.top = c.life + c.b := rfl
  have hSt : c.stack = c.top + 1 := rfl
  have hLp : c.limp = c.stack + c.b := rfl
  have hLb : c.limbo = c.limp + 1 := rfl
  have hW : c.word = c.limbo + c.lim := rfl
  have hZ : c.size = c.word + c.b * 8 := rfl
  unfold cfgV
  go_enter Try.func87, Try.ntmps87
  go_wp2_with (go_at_call 87; (refine (from_7 c HH.out _).mono ?_); rintro e w1 ⟨rfl, hk⟩; have hK := ((Kept.refl (fun _ => False) w).alloc (.cells #[.int .i64 c.t, .int .i64 c.b, .int .i64 c.wr, .int .i64 c.f, .int .u64 c.first, .int .u64 c.last] 24)).trans hk; clear hk)
  go_ret
  exact ⟨ret_i (by omega), hK⟩

set_option maxRecDepth 100000 in
set_option maxHeartbeats 2000000 in
theorem from_10 (c : CfgD) (h : c.Bd) (w : World) : Calls Try.prog 87 #[cfgV c, .int .i64 10] w fun e w' => e = .returned (.int .i64 (c.root)) ∧ Kept (fun _ => False) w w' := by
  have HH := Lib.hid h
  obtain ⟨t1, t8, b1, b64, w0, w64, l0, l1, w3, w5, s0, s1⟩ := h
  have hA : c.ans = 1 + c.ts := rfl
  have hR : c.root = c.ans + c.t * 3 := rfl
  have hL : c.life = c.root + 16 := rfl
  have hT : c.top = c.life + c.b := rfl
  have hSt : c.stack = c.top + 1 := rfl
  have hLp : c.limp = c.stack + c.b := rfl
  have hLb : c.limbo = c.limp + 1 := rfl
  have hW : c.word = c.limbo + c.lim := rfl
  have hZ : c.size = c.word + c.b * 8 := rfl
  unfold cfgV
  go_enter Try.func87, Try.ntmps87
  go_wp2_with fail
  go_region_held3 (fun w' => w'.cell? ⟨w.heap.size, 0, none⟩ = some (.int .i64 c.t) ∧ w'.cell? ⟨w.heap.size, 1, none⟩ = some (.int .i64 c.b) ∧ w'.cell? ⟨w.heap.size, 2, none⟩ = some (.int .i64 c.wr) ∧ w'.cell? ⟨w.heap.size, 3, none⟩ = some (.int .i64 c.f) ∧ w'.cell? ⟨w.heap.size, 4, none⟩ = some (.int .u64 c.first) ∧ w'.cell? ⟨w.heap.size, 5, none⟩ = some (.int .u64 c.last))
    (first | assumption | exact ⟨hC3.cell 0, hC3.cell 1, hC3.cell 2, hC3.cell 3, hC3.cell 4, hC3.cell 5⟩ | exact ⟨hC2.cell 0, hC2.cell 1, hC2.cell 2, hC2.cell 3, hC2.cell 4, hC2.cell 5⟩ | exact ⟨hC1.cell 0, hC1.cell 1, hC1.cell 2, hC1.cell 3, hC1.cell 4, hC1.cell 5⟩ | exact ⟨(Blk.drew (Blk.new _ _ _)).cell 0, (Blk.drew (Blk.new _ _ _)).cell 1, (Blk.drew (Blk.new _ _ _)).cell 2, (Blk.drew (Blk.new _ _ _)).cell 3, (Blk.drew (Blk.new _ _ _)).cell 4, (Blk.drew (Blk.new _ _ _)).cell 5⟩)
    (first | (go_at_call 87; (refine (from_7 c HH.out _).mono ?_); rintro e w1 ⟨rfl, hk⟩; have hC1 : Blk w1 w.heap.size 24 #[.int .i64 c.t, .int .i64 c.b, .int .i64 c.wr, .int .i64 c.f, .int .u64 c.first, .int .u64 c.last] := hk.blk (Blk.drew (Blk.new _ _ _)) (fun h => h); have hK1 := (((Kept.refl (fun _ => False) w).alloc _).drew).trans hk; clear hk))
  go_wp2_with fail
  go_ret
  exact ⟨ret_i (by simp only [IntKind.wrap_i64]; omega), hK1⟩

set_option maxRecDepth 100000 in
set_option maxHeartbeats 2000000 in
theorem from_11 (c : CfgD) (h : c.Bd) (w : World) : Calls Try.prog 87 #[cfgV c, .int .i64 11] w fun e w' => e = .returned (.int .i64 (c.life)) ∧ Kept (fun _ => False) w w' := by
  have HH := Lib.hid h
  obtain ⟨t1, t8, b1, b64, w0, w64, l0, l1, w3, w5, s0, s1⟩ := h
  have hA : c.ans = 1 + c.ts := rfl
  have hR : c.root = c.ans + c.t * 3 := rfl
  have hL : c.life = c.root + 16 := rfl
  have hT : c.top = c.life + c.b := rfl
  have hSt : c.stack = c.top + 1 := rfl
  have hLp : c.limp = c.stack + c.b := rfl
  have hLb : c.limbo = c.limp + 1 := rfl
  have hW : c.word = c.limbo + c.lim := rfl
  have hZ : c.size = c.word + c.b * 8 := rfl
  unfold cfgV
  go_enter Try.func87, Try.ntmps87
  go_wp2_with fail
  go_region_held3 (fun w' => w'.cell? ⟨w.heap.size, 0, none⟩ = some (.int .i64 c.t) ∧ w'.cell? ⟨w.heap.size, 1, none⟩ = some (.int .i64 c.b) ∧ w'.cell? ⟨w.heap.size, 2, none⟩ = some (.int .i64 c.wr) ∧ w'.cell? ⟨w.heap.size, 3, none⟩ = some (.int .i64 c.f) ∧ w'.cell? ⟨w.heap.size, 4, none⟩ = some (.int .u64 c.first) ∧ w'.cell? ⟨w.heap.size, 5, none⟩ = some (.int .u64 c.last))
    (first | assumption | exact ⟨hC3.cell 0, hC3.cell 1, hC3.cell 2, hC3.cell 3, hC3.cell 4, hC3.cell 5⟩ | exact ⟨hC2.cell 0, hC2.cell 1, hC2.cell 2, hC2.cell 3, hC2.cell 4, hC2.cell 5⟩ | exact ⟨hC1.cell 0, hC1.cell 1, hC1.cell 2, hC1.cell 3, hC1.cell 4, hC1.cell 5⟩ | exact ⟨(Blk.drew (Blk.new _ _ _)).cell 0, (Blk.drew (Blk.new _ _ _)).cell 1, (Blk.drew (Blk.new _ _ _)).cell 2, (Blk.drew (Blk.new _ _ _)).cell 3, (Blk.drew (Blk.new _ _ _)).cell 4, (Blk.drew (Blk.new _ _ _)).cell 5⟩)
    (first | (go_at_call 85; (refine (each_10 c HH.out _).mono ?_); rintro e w3 ⟨rfl, hk⟩; have hC3 : Blk w3 w.heap.size 24 #[.int .i64 c.t, .int .i64 c.b, .int .i64 c.wr, .int .i64 c.f, .int .u64 c.first, .int .u64 c.last] := hk.blk hC2 (fun h => h); have hK3 := hK2.trans hk; clear hk) | (go_at_call 84; (refine (count_10 c HH.out _).mono ?_); rintro e w2 ⟨rfl, hk⟩; have hC2 : Blk w2 w.heap.size 24 #[.int .i64 c.t, .int .i64 c.b, .int .i64 c.wr, .int .i64 c.f, .int .u64 c.first, .int .u64 c.last] := hk.blk hC1 (fun h => h); have hK2 := hK1.trans hk; clear hk) | (go_at_call 87; (refine (from_10 c HH.out _).mono ?_); rintro e w1 ⟨rfl, hk⟩; have hC1 : Blk w1 w.heap.size 24 #[.int .i64 c.t, .int .i64 c.b, .int .i64 c.wr, .int .i64 c.f, .int .u64 c.first, .int .u64 c.last] := hk.blk (Blk.drew (Blk.new _ _ _)) (fun h => h); have hK1 := (((Kept.refl (fun _ => False) w).alloc _).drew).trans hk; clear hk))
  go_wp2_with fail
  go_ret
  exact ⟨ret_i (by simp only [IntKind.wrap_i64]; omega), hK3⟩

set_option maxRecDepth 100000 in
set_option maxHeartbeats 2000000 in
theorem from_12 (c : CfgD) (h : c.Bd) (w : World) : Calls Try.prog 87 #[cfgV c, .int .i64 12] w fun e w' => e = .returned (.int .i64 (c.top)) ∧ Kept (fun _ => False) w w' := by
  have HH := Lib.hid h
  obtain ⟨t1, t8, b1, b64, w0, w64, l0, l1, w3, w5, s0, s1⟩ := h
  have hA : c.ans = 1 + c.ts := rfl
  have hR : c.root = c.ans + c.t * 3 := rfl
  have hL : c.life = c.root + 16 := rfl
  have hT : c.top = c.life + c.b := rfl
  have hSt : c.stack = c.top + 1 := rfl
  have hLp : c.limp = c.stack + c.b := rfl
  have hLb : c.limbo = c.limp + 1 := rfl
  have hW : c.word = c.limbo + c.lim := rfl
  have hZ : c.size = c.word + c.b * 8 := rfl
  unfold cfgV
  go_enter Try.func87, Try.ntmps87
  go_wp2_with fail
  go_region_held3 (fun w' => w'.cell? ⟨w.heap.size, 0, none⟩ = some (.int .i64 c.t) ∧ w'.cell? ⟨w.heap.size, 1, none⟩ = some (.int .i64 c.b) ∧ w'.cell? ⟨w.heap.size, 2, none⟩ = some (.int .i64 c.wr) ∧ w'.cell? ⟨w.heap.size, 3, none⟩ = some (.int .i64 c.f) ∧ w'.cell? ⟨w.heap.size, 4, none⟩ = some (.int .u64 c.first) ∧ w'.cell? ⟨w.heap.size, 5, none⟩ = some (.int .u64 c.last))
    (first | assumption | exact ⟨hC3.cell 0, hC3.cell 1, hC3.cell 2, hC3.cell 3, hC3.cell 4, hC3.cell 5⟩ | exact ⟨hC2.cell 0, hC2.cell 1, hC2.cell 2, hC2.cell 3, hC2.cell 4, hC2.cell 5⟩ | exact ⟨hC1.cell 0, hC1.cell 1, hC1.cell 2, hC1.cell 3, hC1.cell 4, hC1.cell 5⟩ | exact ⟨(Blk.drew (Blk.new _ _ _)).cell 0, (Blk.drew (Blk.new _ _ _)).cell 1, (Blk.drew (Blk.new _ _ _)).cell 2, (Blk.drew (Blk.new _ _ _)).cell 3, (Blk.drew (Blk.new _ _ _)).cell 4, (Blk.drew (Blk.new _ _ _)).cell 5⟩)
    (first | (go_at_call 85; (refine (each_11 c HH.out _).mono ?_); rintro e w3 ⟨rfl, hk⟩; have hC3 : Blk w3 w.heap.size 24 #[.int .i64 c.t, .int .i64 c.b, .int .i64 c.wr, .int .i64 c.f, .int .u64 c.first, .int .u64 c.last] := hk.blk hC2 (fun h => h); have hK3 := hK2.trans hk; clear hk) | (go_at_call 84; (refine (count_11 c HH.out _).mono ?_); rintro e w2 ⟨rfl, hk⟩; have hC2 : Blk w2 w.heap.size 24 #[.int .i64 c.t, .int .i64 c.b, .int .i64 c.wr, .int .i64 c.f, .int .u64 c.first, .int .u64 c.last] := hk.blk hC1 (fun h => h); have hK2 := hK1.trans hk; clear hk) | (go_at_call 87; (refine (from_11 c HH.out _).mono ?_); rintro e w1 ⟨rfl, hk⟩; have hC1 : Blk w1 w.heap.size 24 #[.int .i64 c.t, .int .i64 c.b, .int .i64 c.wr, .int .i64 c.f, .int .u64 c.first, .int .u64 c.last] := hk.blk (Blk.drew (Blk.new _ _ _)) (fun h => h); have hK1 := (((Kept.refl (fun _ => False) w).alloc _).drew).trans hk; clear hk))
  go_wp2_with fail
  go_ret
  exact ⟨ret_i (by simp only [IntKind.wrap_i64]; omega), hK3⟩

set_option maxRecDepth 100000 in
set_option maxHeartbeats 2000000 in
theorem from_13 (c : CfgD) (h : c.Bd) (w : World) : Calls Try.prog 87 #[cfgV c, .int .i64 13] w fun e w' => e = .returned (.int .i64 (c.stack)) ∧ Kept (fun _ => False) w w' := by
  have HH := Lib.hid h
  obtain ⟨t1, t8, b1, b64, w0, w64, l0, l1, w3, w5, s0, s1⟩ := h
  have hA : c.ans = 1 + c.ts := rfl
  have hR : c.root = c.ans + c.t * 3 := rfl
  have hL : c.life = c.root + 16 := rfl
  have hT : c.top = c.life + c.b := rfl
  have hSt : c.stack = c.top + 1 := rfl
  have hLp : c.limp = c.stack + c.b := rfl
  have hLb : c.limbo = c.limp + 1 := rfl
  have hW : c.word = c.limbo + c.lim := rfl
  have hZ : c.size = c.word + c.b * 8 := rfl
  unfold cfgV
  go_enter Try.func87, Try.ntmps87
  go_wp2_with fail
  go_region_held3 (fun w' => w'.cell? ⟨w.heap.size, 0, none⟩ = some (.int .i64 c.t) ∧ w'.cell? ⟨w.heap.size, 1, none⟩ = some (.int .i64 c.b) ∧ w'.cell? ⟨w.heap.size, 2, none⟩ = some (.int .i64 c.wr) ∧ w'.cell? ⟨w.heap.size, 3, none⟩ = some (.int .i64 c.f) ∧ w'.cell? ⟨w.heap.size, 4, none⟩ = some (.int .u64 c.first) ∧ w'.cell? ⟨w.heap.size, 5, none⟩ = some (.int .u64 c.last))
    (first | assumption | exact ⟨hC3.cell 0, hC3.cell 1, hC3.cell 2, hC3.cell 3, hC3.cell 4, hC3.cell 5⟩ | exact ⟨hC2.cell 0, hC2.cell 1, hC2.cell 2, hC2.cell 3, hC2.cell 4, hC2.cell 5⟩ | exact ⟨hC1.cell 0, hC1.cell 1, hC1.cell 2, hC1.cell 3, hC1.cell 4, hC1.cell 5⟩ | exact ⟨(Blk.drew (Blk.new _ _ _)).cell 0, (Blk.drew (Blk.new _ _ _)).cell 1, (Blk.drew (Blk.new _ _ _)).cell 2, (Blk.drew (Blk.new _ _ _)).cell 3, (Blk.drew (Blk.new _ _ _)).cell 4, (Blk.drew (Blk.new _ _ _)).cell 5⟩)
    (first | (go_at_call 85; (refine (each_12 c HH.out _).mono ?_); rintro e w3 ⟨rfl, hk⟩; have hC3 : Blk w3 w.heap.size 24 #[.int .i64 c.t, .int .i64 c.b, .int .i64 c.wr, .int .i64 c.f, .int .u64 c.first, .int .u64 c.last] := hk.blk hC2 (fun h => h); have hK3 := hK2.trans hk; clear hk) | (go_at_call 84; (refine (count_12 c HH.out _).mono ?_); rintro e w2 ⟨rfl, hk⟩; have hC2 : Blk w2 w.heap.size 24 #[.int .i64 c.t, .int .i64 c.b, .int .i64 c.wr, .int .i64 c.f, .int .u64 c.first, .int .u64 c.last] := hk.blk hC1 (fun h => h); have hK2 := hK1.trans hk; clear hk) | (go_at_call 87; (refine (from_12 c HH.out _).mono ?_); rintro e w1 ⟨rfl, hk⟩; have hC1 : Blk w1 w.heap.size 24 #[.int .i64 c.t, .int .i64 c.b, .int .i64 c.wr, .int .i64 c.f, .int .u64 c.first, .int .u64 c.last] := hk.blk (Blk.drew (Blk.new _ _ _)) (fun h => h); have hK1 := (((Kept.refl (fun _ => False) w).alloc _).drew).trans hk; clear hk))
  go_wp2_with fail
  go_ret
  exact ⟨ret_i (by simp only [IntKind.wrap_i64]; omega), hK3⟩

set_option maxRecDepth 100000 in
set_option maxHeartbeats 2000000 in
theorem from_14 (c : CfgD) (h : c.Bd) (w : World) : Calls Try.prog 87 #[cfgV c, .int .i64 14] w fun e w' => e = .returned (.int .i64 (c.limp)) ∧ Kept (fun _ => False) w w' := by
  have HH := Lib.hid h
  obtain ⟨t1, t8, b1, b64, w0, w64, l0, l1, w3, w5, s0, s1⟩ := h
  have hA : c.ans = 1 + c.ts := rfl
  have hR : c.root = c.ans + c.t * 3 := rfl
  have hL : c.life = c.root + 16 := rfl
  have hT : c.top = c.life + c.b := rfl
  have hSt : c.stack = c.top + 1 := rfl
  have hLp : c.limp = c.stack + c.b := rfl
  have hLb : c.limbo = c.limp + 1 := rfl
  have hW : c.word = c.limbo + c.lim := rfl
  have hZ : c.size = c.word + c.b * 8 := rfl
  unfold cfgV
  go_enter Try.func87, Try.ntmps87
  go_wp2_with fail
  go_region_held3 (fun w' => w'.cell? ⟨w.heap.size, 0, none⟩ = some (.int .i64 c.t) ∧ w'.cell? ⟨w.heap.size, 1, none⟩ = some (.int .i64 c.b) ∧ w'.cell? ⟨w.heap.size, 2, none⟩ = some (.int .i64 c.wr) ∧ w'.cell? ⟨w.heap.size, 3, none⟩ = some (.int .i64 c.f) ∧ w'.cell? ⟨w.heap.size, 4, none⟩ = some (.int .u64 c.first) ∧ w'.cell? ⟨w.heap.size, 5, none⟩ = some (.int .u64 c.last))
    (first | assumption | exact ⟨hC3.cell 0, hC3.cell 1, hC3.cell 2, hC3.cell 3, hC3.cell 4, hC3.cell 5⟩ | exact ⟨hC2.cell 0, hC2.cell 1, hC2.cell 2, hC2.cell 3, hC2.cell 4, hC2.cell 5⟩ | exact ⟨hC1.cell 0, hC1.cell 1, hC1.cell 2, hC1.cell 3, hC1.cell 4, hC1.cell 5⟩ | exact ⟨(Blk.drew (Blk.new _ _ _)).cell 0, (Blk.drew (Blk.new _ _ _)).cell 1, (Blk.drew (Blk.new _ _ _)).cell 2, (Blk.drew (Blk.new _ _ _)).cell 3, (Blk.drew (Blk.new _ _ _)).cell 4, (Blk.drew (Blk.new _ _ _)).cell 5⟩)
    (first | (go_at_call 85; (refine (each_13 c HH.out _).mono ?_); rintro e w3 ⟨rfl, hk⟩; have hC3 : Blk w3 w.heap.size 24 #[.int .i64 c.t, .int .i64 c.b, .int .i64 c.wr, .int .i64 c.f, .int .u64 c.first, .int .u64 c.last] := hk.blk hC2 (fun h => h); have hK3 := hK2.trans hk; clear hk) | (go_at_call 84; (refine (count_13 c HH.out _).mono ?_); rintro e w2 ⟨rfl, hk⟩; have hC2 : Blk w2 w.heap.size 24 #[.int .i64 c.t, .int .i64 c.b, .int .i64 c.wr, .int .i64 c.f, .int .u64 c.first, .int .u64 c.last] := hk.blk hC1 (fun h => h); have hK2 := hK1.trans hk; clear hk) | (go_at_call 87; (refine (from_13 c HH.out _).mono ?_); rintro e w1 ⟨rfl, hk⟩; have hC1 : Blk w1 w.heap.size 24 #[.int .i64 c.t, .int .i64 c.b, .int .i64 c.wr, .int .i64 c.f, .int .u64 c.first, .int .u64 c.last] := hk.blk (Blk.drew (Blk.new _ _ _)) (fun h => h); have hK1 := (((Kept.refl (fun _ => False) w).alloc _).drew).trans hk; clear hk))
  go_wp2_with fail
  go_ret
  exact ⟨ret_i (by simp only [IntKind.wrap_i64]; omega), hK3⟩

set_option maxRecDepth 100000 in
set_option maxHeartbeats 2000000 in
theorem from_15 (c : CfgD) (h : c.Bd) (w : World) : Calls Try.prog 87 #[cfgV c, .int .i64 15] w fun e w' => e = .returned (.int .i64 (c.limbo)) ∧ Kept (fun _ => False) w w' := by
  have HH := Lib.hid h
  obtain ⟨t1, t8, b1, b64, w0, w64, l0, l1, w3, w5, s0, s1⟩ := h
  have hA : c.ans = 1 + c.ts := rfl
  have hR : c.root = c.ans + c.t * 3 := rfl
  have hL : c.life = c.root + 16 := rfl
  have hT : c.top = c.life + c.b := rfl
  have hSt : c.stack = c.top + 1 := rfl
  have hLp : c.limp = c.stack + c.b := rfl
  have hLb : c.limbo = c.limp + 1 := rfl
  have hW : c.word = c.limbo + c.lim := rfl
  have hZ : c.size = c.word + c.b * 8 := rfl
  unfold cfgV
  go_enter Try.func87, Try.ntmps87
  go_wp2_with fail
  go_region_held3 (fun w' => w'.cell? ⟨w.heap.size, 0, none⟩ = some (.int .i64 c.t) ∧ w'.cell? ⟨w.heap.size, 1, none⟩ = some (.int .i64 c.b) ∧ w'.cell? ⟨w.heap.size, 2, none⟩ = some (.int .i64 c.wr) ∧ w'.cell? ⟨w.heap.size, 3, none⟩ = some (.int .i64 c.f) ∧ w'.cell? ⟨w.heap.size, 4, none⟩ = some (.int .u64 c.first) ∧ w'.cell? ⟨w.heap.size, 5, none⟩ = some (.int .u64 c.last))
    (first | assumption | exact ⟨hC3.cell 0, hC3.cell 1, hC3.cell 2, hC3.cell 3, hC3.cell 4, hC3.cell 5⟩ | exact ⟨hC2.cell 0, hC2.cell 1, hC2.cell 2, hC2.cell 3, hC2.cell 4, hC2.cell 5⟩ | exact ⟨hC1.cell 0, hC1.cell 1, hC1.cell 2, hC1.cell 3, hC1.cell 4, hC1.cell 5⟩ | exact ⟨(Blk.drew (Blk.new _ _ _)).cell 0, (Blk.drew (Blk.new _ _ _)).cell 1, (Blk.drew (Blk.new _ _ _)).cell 2, (Blk.drew (Blk.new _ _ _)).cell 3, (Blk.drew (Blk.new _ _ _)).cell 4, (Blk.drew (Blk.new _ _ _)).cell 5⟩)
    (first | (go_at_call 85; (refine (each_14 c HH.out _).mono ?_); rintro e w3 ⟨rfl, hk⟩; have hC3 : Blk w3 w.heap.size 24 #[.int .i64 c.t, .int .i64 c.b, .int .i64 c.wr, .int .i64 c.f, .int .u64 c.first, .int .u64 c.last] := hk.blk hC2 (fun h => h); have hK3 := hK2.trans hk; clear hk) | (go_at_call 84; (refine (count_14 c HH.out _).mono ?_); rintro e w2 ⟨rfl, hk⟩; have hC2 : Blk w2 w.heap.size 24 #[.int .i64 c.t, .int .i64 c.b, .int .i64 c.wr, .int .i64 c.f, .int .u64 c.first, .int .u64 c.last] := hk.blk hC1 (fun h => h); have hK2 := hK1.trans hk; clear hk) | (go_at_call 87; (refine (from_14 c HH.out _).mono ?_); rintro e w1 ⟨rfl, hk⟩; have hC1 : Blk w1 w.heap.size 24 #[.int .i64 c.t, .int .i64 c.b, .int .i64 c.wr, .int .i64 c.f, .int .u64 c.first, .int .u64 c.last] := hk.blk (Blk.drew (Blk.new _ _ _)) (fun h => h); have hK1 := (((Kept.refl (fun _ => False) w).alloc _).drew).trans hk; clear hk))
  go_wp2_with fail
  go_ret
  exact ⟨ret_i (by simp only [IntKind.wrap_i64]; omega), hK3⟩

set_option maxRecDepth 100000 in
set_option maxHeartbeats 2000000 in
theorem from_16 (c : CfgD) (h : c.Bd) (w : World) : Calls Try.prog 87 #[cfgV c, .int .i64 16] w fun e w' => e = .returned (.int .i64 (c.word)) ∧ Kept (fun _ => False) w w' := by
  have HH := Lib.hid h
  obtain ⟨t1, t8, b1, b64, w0, w64, l0, l1, w3, w5, s0, s1⟩ := h
  have hA : c.ans = 1 + c.ts := rfl
  have hR : c.root = c.ans + c.t * 3 := rfl
  have hL : c.life = c.root + 16 := rfl
  have hT : c.top = c.life + c.b := rfl
  have hSt : c.stack = c.top + 1 := rfl
  have hLp : c.limp = c.stack + c.b := rfl
  have hLb : c.limbo = c.limp + 1 := rfl
  have hW : c.word = c.limbo + c.lim := rfl
  have hZ : c.size = c.word + c.b * 8 := rfl
  unfold cfgV
  go_enter Try.func87, Try.ntmps87
  go_wp2_with fail
  go_region_held3 (fun w' => w'.cell? ⟨w.heap.size, 0, none⟩ = some (.int .i64 c.t) ∧ w'.cell? ⟨w.heap.size, 1, none⟩ = some (.int .i64 c.b) ∧ w'.cell? ⟨w.heap.size, 2, none⟩ = some (.int .i64 c.wr) ∧ w'.cell? ⟨w.heap.size, 3, none⟩ = some (.int .i64 c.f) ∧ w'.cell? ⟨w.heap.size, 4, none⟩ = some (.int .u64 c.first) ∧ w'.cell? ⟨w.heap.size, 5, none⟩ = some (.int .u64 c.last))
    (first | assumption | exact ⟨hC3.cell 0, hC3.cell 1, hC3.cell 2, hC3.cell 3, hC3.cell 4, hC3.cell 5⟩ | exact ⟨hC2.cell 0, hC2.cell 1, hC2.cell 2, hC2.cell 3, hC2.cell 4, hC2.cell 5⟩ | exact ⟨hC1.cell 0, hC1.cell 1, hC1.cell 2, hC1.cell 3, hC1.cell 4, hC1.cell 5⟩ | exact ⟨(Blk.drew (Blk.new _ _ _)).cell 0, (Blk.drew (Blk.new _ _ _)).cell 1, (Blk.drew (Blk.new _ _ _)).cell 2, (Blk.drew (Blk.new _ _ _)).cell 3, (Blk.drew (Blk.new _ _ _)).cell 4, (Blk.drew (Blk.new _ _ _)).cell 5⟩)
    (first | (go_at_call 85; (refine (each_15 c HH.out _).mono ?_); rintro e w3 ⟨rfl, hk⟩; have hC3 : Blk w3 w.heap.size 24 #[.int .i64 c.t, .int .i64 c.b, .int .i64 c.wr, .int .i64 c.f, .int .u64 c.first, .int .u64 c.last] := hk.blk hC2 (fun h => h); have hK3 := hK2.trans hk; clear hk) | (go_at_call 84; (refine (count_15 c HH.out _).mono ?_); rintro e w2 ⟨rfl, hk⟩; have hC2 : Blk w2 w.heap.size 24 #[.int .i64 c.t, .int .i64 c.b, .int .i64 c.wr, .int .i64 c.f, .int .u64 c.first, .int .u64 c.last] := hk.blk hC1 (fun h => h); have hK2 := hK1.trans hk; clear hk) | (go_at_call 87; (refine (from_15 c HH.out _).mono ?_); rintro e w1 ⟨rfl, hk⟩; have hC1 : Blk w1 w.heap.size 24 #[.int .i64 c.t, .int .i64 c.b, .int .i64 c.wr, .int .i64 c.f, .int .u64 c.first, .int .u64 c.last] := hk.blk (Blk.drew (Blk.new _ _ _)) (fun h => h); have hK1 := (((Kept.refl (fun _ => False) w).alloc _).drew).trans hk; clear hk))
  go_wp2_with fail
  go_ret
  exact ⟨ret_i (by simp only [IntKind.wrap_i64]; omega), hK3⟩

set_option maxRecDepth 100000 in
set_option maxHeartbeats 2000000 in
theorem from_17 (c : CfgD) (h : c.Bd) (w : World) : Calls Try.prog 87 #[cfgV c, .int .i64 17] w fun e w' => e = .returned (.int .i64 (c.size)) ∧ Kept (fun _ => False) w w' := by
  have HH := Lib.hid h
  obtain ⟨t1, t8, b1, b64, w0, w64, l0, l1, w3, w5, s0, s1⟩ := h
  have hA : c.ans = 1 + c.ts := rfl
  have hR : c.root = c.ans + c.t * 3 := rfl
  have hL : c.life = c.root + 16 := rfl
  have hT : c.top = c.life + c.b := rfl
  have hSt : c.stack = c.top + 1 := rfl
  have hLp : c.limp = c.stack + c.b := rfl
  have hLb : c.limbo = c.limp + 1 := rfl
  have hW : c.word = c.limbo + c.lim := rfl
  have hZ : c.size = c.word + c.b * 8 := rfl
  unfold cfgV
  go_enter Try.func87, Try.ntmps87
  go_wp2_with fail
  go_region_held3 (fun w' => w'.cell? ⟨w.heap.size, 0, none⟩ = some (.int .i64 c.t) ∧ w'.cell? ⟨w.heap.size, 1, none⟩ = some (.int .i64 c.b) ∧ w'.cell? ⟨w.heap.size, 2, none⟩ = some (.int .i64 c.wr) ∧ w'.cell? ⟨w.heap.size, 3, none⟩ = some (.int .i64 c.f) ∧ w'.cell? ⟨w.heap.size, 4, none⟩ = some (.int .u64 c.first) ∧ w'.cell? ⟨w.heap.size, 5, none⟩ = some (.int .u64 c.last))
    (first | assumption | exact ⟨hC3.cell 0, hC3.cell 1, hC3.cell 2, hC3.cell 3, hC3.cell 4, hC3.cell 5⟩ | exact ⟨hC2.cell 0, hC2.cell 1, hC2.cell 2, hC2.cell 3, hC2.cell 4, hC2.cell 5⟩ | exact ⟨hC1.cell 0, hC1.cell 1, hC1.cell 2, hC1.cell 3, hC1.cell 4, hC1.cell 5⟩ | exact ⟨(Blk.drew (Blk.new _ _ _)).cell 0, (Blk.drew (Blk.new _ _ _)).cell 1, (Blk.drew (Blk.new _ _ _)).cell 2, (Blk.drew (Blk.new _ _ _)).cell 3, (Blk.drew (Blk.new _ _ _)).cell 4, (Blk.drew (Blk.new _ _ _)).cell 5⟩)
    (first | (go_at_call 85; (refine (each_16 c HH.out _).mono ?_); rintro e w3 ⟨rfl, hk⟩; have hC3 : Blk w3 w.heap.size 24 #[.int .i64 c.t, .int .i64 c.b, .int .i64 c.wr, .int .i64 c.f, .int .u64 c.first, .int .u64 c.last] := hk.blk hC2 (fun h => h); have hK3 := hK2.trans hk; clear hk) | (go_at_call 84; (refine (count_16 c HH.out _).mono ?_); rintro e w2 ⟨rfl, hk⟩; have hC2 : Blk w2 w.heap.size 24 #[.int .i64 c.t, .int .i64 c.b, .int .i64 c.wr, .int .i64 c.f, .int .u64 c.first, .int .u64 c.last] := hk.blk hC1 (fun h => h); have hK2 := hK1.trans hk; clear hk) | (go_at_call 87; (refine (from_16 c HH.out _).mono ?_); rintro e w1 ⟨rfl, hk⟩; have hC1 : Blk w1 w.heap.size 24 #[.int .i64 c.t, .int .i64 c.b, .int .i64 c.wr, .int .i64 c.f, .int .u64 c.first, .int .u64 c.last] := hk.blk (Blk.drew (Blk.new _ _ _)) (fun h => h); have hK1 := (((Kept.refl (fun _ => False) w).alloc _).drew).trans hk; clear hk))
  go_wp2_with fail
  go_ret
  exact ⟨ret_i (by simp only [IntKind.wrap_i64]; omega), hK3⟩

theorem from_calls (c : CfgD) (h : c.Bd) (k : Nat) (hk : k < 17) (w : World) : Calls Try.prog 87 #[cfgV c, .int .i64 (k : Int)] w fun e w' => e = .returned (.int .i64 (c.beg k)) ∧ Kept (fun _ => False) w w' := by
  match k, hk with
  | 0, _ => exact from_0 c h w
  | 1, _ => exact from_1 c h w
  | 2, _ => exact from_2 c h w
  | 3, _ => exact from_3 c h w
  | 4, _ => exact from_4 c h w
  | 5, _ => exact from_5 c h w
  | 6, _ => exact from_6 c h w
  | 7, _ => exact from_7 c h w
  | 8, _ => exact from_8 c h w
  | 9, _ => exact from_9 c h w
  | 10, _ => exact from_10 c h w
  | 11, _ => exact from_11 c h w
  | 12, _ => exact from_12 c h w
  | 13, _ => exact from_13 c h w
  | 14, _ => exact from_14 c h w
  | 15, _ => exact from_15 c h w
  | 16, _ => exact from_16 c h w
  | n + 17, hn => omega
end Go.Proofs.Ythjkodjpopcjaaa
