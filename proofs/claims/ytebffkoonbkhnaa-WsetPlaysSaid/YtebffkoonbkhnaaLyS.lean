/- Layer 7 (lay): walks: shape. -/
import Derived.Test.YtebffkoonbkhnaaLyP
namespace Go.Proofs.Ytebffkoonbkhnaa
open Go.RowKit
attribute [local go_sem ↓] loadMap_eq

def ShapeR (c : CfgD) (a b d : Int) (w : World) (e : Ending) (w' : World) : Prop := e = .returned (.tuple #[.int .i64 a, .int .i64 b, .int .i64 d]) ∧ Kept (fun _ => False) w w'

set_option maxRecDepth 100000 in
set_option maxHeartbeats 1000000 in
theorem shape_0 (c : CfgD) (x : Fin 17 → Value) (h : c.Bd) (w : World) : Calls Try.prog 93 #[mapX c x, .int .i64 0] w (ShapeR c (1) (1) (1) w) := by
  have HH := Lib.hid h
  clear h
  unfold mapX mapXA
  go_enter Try.func93, Try.ntmps93
  go_wp2_with fail
  go_ret3
  exact ⟨rfl, (Kept.refl _ w).alloc _⟩

set_option maxRecDepth 100000 in
set_option maxHeartbeats 1000000 in
theorem shape_1 (c : CfgD) (x : Fin 17 → Value) (h : c.Bd) (w : World) : Calls Try.prog 93 #[mapX c x, .int .i64 1] w (ShapeR c (c.t) (1) (c.str) w) := by
  have HH := Lib.hid h
  clear h
  unfold mapX mapXA
  go_enter Try.func93, Try.ntmps93
  go_wp2_with fail
  go_region_held3 (fun w' => (loadMap ⟨w.heap.size, 0, none⟩).run Try.prog w' = .ok (.agg #[.int .i64 c.t, .int .i64 c.b, .int .i64 c.wr, .int .i64 c.f, .int .u64 c.first, .int .u64 c.last, x 0, x 1, x 2, x 3, x 4, x 5, x 6, x 7, x 8, x 9, x 10, x 11, x 12, x 13, x 14, x 15, x 16]) w' ∧ w'.cell? ⟨w.heap.size, 0, none⟩ = some (.int .i64 c.t))
    (first | assumption | exact ⟨loadMap_blk hSS, hSS.cell 0⟩ | exact ⟨loadMap_blk (c := c) (x := x) (Blk.drew (Blk.new _ _ _)), (Blk.drew (Blk.new _ _ _)).cell 0⟩ | exact ⟨loadMap_blk hS2, hS2.cell 0⟩ | (go_keep; done) | (simp [*, go_sem]; done))
    ((go_at_call 99; refine (stride_calls c x HH.out _).mono ?_; rintro e w1 ⟨rfl, hb⟩; have hSS : Blk w1 w.heap.size 31 (mapXA c x) := (Blk.drew (Blk.new _ _ _)).below hb (by simp); have hK : Kept (fun _ => False) w w1 := (((Kept.refl _ w).alloc _).drew).trans (keptBelow hb)))
  go_wp2_with fail
  go_ret3
  exact ⟨rfl, hK⟩

set_option maxRecDepth 100000 in
set_option maxHeartbeats 1000000 in
theorem shape_2 (c : CfgD) (x : Fin 17 → Value) (h : c.Bd) (w : World) : Calls Try.prog 93 #[mapX c x, .int .i64 2] w (ShapeR c (c.t) (4) (c.str) w) := by
  have HH := Lib.hid h
  clear h
  unfold mapX mapXA
  go_enter Try.func93, Try.ntmps93
  go_wp2_with fail
  go_region_held3 (fun w' => (loadMap ⟨w.heap.size, 0, none⟩).run Try.prog w' = .ok (.agg #[.int .i64 c.t, .int .i64 c.b, .int .i64 c.wr, .int .i64 c.f, .int .u64 c.first, .int .u64 c.last, x 0, x 1, x 2, x 3, x 4, x 5, x 6, x 7, x 8, x 9, x 10, x 11, x 12, x 13, x 14, x 15, x 16]) w' ∧ w'.cell? ⟨w.heap.size, 0, none⟩ = some (.int .i64 c.t))
    (first | assumption | exact ⟨loadMap_blk hSS, hSS.cell 0⟩ | exact ⟨loadMap_blk (c := c) (x := x) (Blk.drew (Blk.new _ _ _)), (Blk.drew (Blk.new _ _ _)).cell 0⟩ | exact ⟨loadMap_blk hS2, hS2.cell 0⟩ | (go_keep; done) | (simp [*, go_sem]; done))
    ((go_at_call 99; refine (stride_calls c x HH.out _).mono ?_; rintro e w1 ⟨rfl, hb⟩; have hSS : Blk w1 w.heap.size 31 (mapXA c x) := (Blk.drew (Blk.new _ _ _)).below hb (by simp); have hK : Kept (fun _ => False) w w1 := (((Kept.refl _ w).alloc _).drew).trans (keptBelow hb)))
  go_wp2_with fail
  go_ret3
  exact ⟨rfl, hK⟩

set_option maxRecDepth 100000 in
set_option maxHeartbeats 1000000 in
theorem shape_3 (c : CfgD) (x : Fin 17 → Value) (h : c.Bd) (w : World) : Calls Try.prog 93 #[mapX c x, .int .i64 3] w (ShapeR c (c.t) (1) (c.str) w) := by
  have HH := Lib.hid h
  clear h
  unfold mapX mapXA
  go_enter Try.func93, Try.ntmps93
  go_wp2_with fail
  go_region_held3 (fun w' => (loadMap ⟨w.heap.size, 0, none⟩).run Try.prog w' = .ok (.agg #[.int .i64 c.t, .int .i64 c.b, .int .i64 c.wr, .int .i64 c.f, .int .u64 c.first, .int .u64 c.last, x 0, x 1, x 2, x 3, x 4, x 5, x 6, x 7, x 8, x 9, x 10, x 11, x 12, x 13, x 14, x 15, x 16]) w' ∧ w'.cell? ⟨w.heap.size, 0, none⟩ = some (.int .i64 c.t))
    (first | assumption | exact ⟨loadMap_blk hSS, hSS.cell 0⟩ | exact ⟨loadMap_blk (c := c) (x := x) (Blk.drew (Blk.new _ _ _)), (Blk.drew (Blk.new _ _ _)).cell 0⟩ | exact ⟨loadMap_blk hS2, hS2.cell 0⟩ | (go_keep; done) | (simp [*, go_sem]; done))
    ((go_at_call 99; refine (stride_calls c x HH.out _).mono ?_; rintro e w1 ⟨rfl, hb⟩; have hSS : Blk w1 w.heap.size 31 (mapXA c x) := (Blk.drew (Blk.new _ _ _)).below hb (by simp); have hK : Kept (fun _ => False) w w1 := (((Kept.refl _ w).alloc _).drew).trans (keptBelow hb)))
  go_wp2_with fail
  go_ret3
  exact ⟨rfl, hK⟩

set_option maxRecDepth 100000 in
set_option maxHeartbeats 1000000 in
theorem shape_4 (c : CfgD) (x : Fin 17 → Value) (h : c.Bd) (w : World) : Calls Try.prog 93 #[mapX c x, .int .i64 4] w (ShapeR c (c.t) (1) (c.str) w) := by
  have HH := Lib.hid h
  clear h
  unfold mapX mapXA
  go_enter Try.func93, Try.ntmps93
  go_wp2_with fail
  go_region_held3 (fun w' => (loadMap ⟨w.heap.size, 0, none⟩).run Try.prog w' = .ok (.agg #[.int .i64 c.t, .int .i64 c.b, .int .i64 c.wr, .int .i64 c.f, .int .u64 c.first, .int .u64 c.last, x 0, x 1, x 2, x 3, x 4, x 5, x 6, x 7, x 8, x 9, x 10, x 11, x 12, x 13, x 14, x 15, x 16]) w' ∧ w'.cell? ⟨w.heap.size, 0, none⟩ = some (.int .i64 c.t))
    (first | assumption | exact ⟨loadMap_blk hSS, hSS.cell 0⟩ | exact ⟨loadMap_blk (c := c) (x := x) (Blk.drew (Blk.new _ _ _)), (Blk.drew (Blk.new _ _ _)).cell 0⟩ | exact ⟨loadMap_blk hS2, hS2.cell 0⟩ | (go_keep; done) | (simp [*, go_sem]; done))
    ((go_at_call 99; refine (stride_calls c x HH.out _).mono ?_; rintro e w1 ⟨rfl, hb⟩; have hSS : Blk w1 w.heap.size 31 (mapXA c x) := (Blk.drew (Blk.new _ _ _)).below hb (by simp); have hK : Kept (fun _ => False) w w1 := (((Kept.refl _ w).alloc _).drew).trans (keptBelow hb)))
  go_wp2_with fail
  go_ret3
  exact ⟨rfl, hK⟩

set_option maxRecDepth 100000 in
set_option maxHeartbeats 1000000 in
theorem shape_5 (c : CfgD) (x : Fin 17 → Value) (h : c.Bd) (w : World) : Calls Try.prog 93 #[mapX c x, .int .i64 5] w (ShapeR c (c.t) (1) (c.str) w) := by
  have HH := Lib.hid h
  clear h
  unfold mapX mapXA
  go_enter Try.func93, Try.ntmps93
  go_wp2_with fail
  go_region_held3 (fun w' => (loadMap ⟨w.heap.size, 0, none⟩).run Try.prog w' = .ok (.agg #[.int .i64 c.t, .int .i64 c.b, .int .i64 c.wr, .int .i64 c.f, .int .u64 c.first, .int .u64 c.last, x 0, x 1, x 2, x 3, x 4, x 5, x 6, x 7, x 8, x 9, x 10, x 11, x 12, x 13, x 14, x 15, x 16]) w' ∧ w'.cell? ⟨w.heap.size, 0, none⟩ = some (.int .i64 c.t))
    (first | assumption | exact ⟨loadMap_blk hSS, hSS.cell 0⟩ | exact ⟨loadMap_blk (c := c) (x := x) (Blk.drew (Blk.new _ _ _)), (Blk.drew (Blk.new _ _ _)).cell 0⟩ | exact ⟨loadMap_blk hS2, hS2.cell 0⟩ | (go_keep; done) | (simp [*, go_sem]; done))
    ((go_at_call 99; refine (stride_calls c x HH.out _).mono ?_; rintro e w1 ⟨rfl, hb⟩; have hSS : Blk w1 w.heap.size 31 (mapXA c x) := (Blk.drew (Blk.new _ _ _)).below hb (by simp); have hK : Kept (fun _ => False) w w1 := (((Kept.refl _ w).alloc _).drew).trans (keptBelow hb)))
  go_wp2_with fail
  go_ret3
  exact ⟨rfl, hK⟩

set_option maxRecDepth 100000 in
set_option maxHeartbeats 1000000 in
theorem shape_6 (c : CfgD) (x : Fin 17 → Value) (h : c.Bd) (w : World) : Calls Try.prog 93 #[mapX c x, .int .i64 6] w (ShapeR c (c.t) (c.cap) (c.str) w) := by
  have HH := Lib.hid h
  clear h
  unfold mapX mapXA
  go_enter Try.func93, Try.ntmps93
  go_wp2_with fail
  go_region_held3 (fun w' => (loadMap ⟨w.heap.size, 0, none⟩).run Try.prog w' = .ok (.agg #[.int .i64 c.t, .int .i64 c.b, .int .i64 c.wr, .int .i64 c.f, .int .u64 c.first, .int .u64 c.last, x 0, x 1, x 2, x 3, x 4, x 5, x 6, x 7, x 8, x 9, x 10, x 11, x 12, x 13, x 14, x 15, x 16]) w' ∧ w'.cell? ⟨w.heap.size, 0, none⟩ = some (.int .i64 c.t))
    (first | assumption | exact ⟨loadMap_blk hSS, hSS.cell 0⟩ | exact ⟨loadMap_blk (c := c) (x := x) (Blk.drew (Blk.new _ _ _)), (Blk.drew (Blk.new _ _ _)).cell 0⟩ | exact ⟨loadMap_blk hS2, hS2.cell 0⟩ | (go_keep; done) | (simp [*, go_sem]; done))
    (first | (go_at_call 99; refine (stride_calls c x HH.out _).mono ?_; rintro e w1 ⟨rfl, hb⟩; have hSS : Blk w1 w.heap.size 31 (mapXA c x) := (Blk.drew (Blk.new _ _ _)).below hb (by simp); have hK : Kept (fun _ => False) w w1 := (((Kept.refl _ w).alloc _).drew).trans (keptBelow hb)) | (go_at_call 103; refine (cap_calls c x HH.out _).mono ?_; rintro e w1 ⟨rfl, hb⟩; have hSS : Blk w1 w.heap.size 31 (mapXA c x) := (Blk.drew (Blk.new _ _ _)).below hb (by simp); have hK : Kept (fun _ => False) w w1 := (((Kept.refl _ w).alloc _).drew).trans (keptBelow hb)) | (go_at_call 103; refine (cap_calls c x HH.out _).mono ?_; rintro e w2 ⟨rfl, hb2⟩; have hS2 : Blk w2 w.heap.size 31 (mapXA c x) := hSS.below hb2 hSS.lt; have hK2 : Kept (fun _ => False) w w2 := hK.trans (keptBelow hb2)) | (go_at_call 99; refine (stride_calls c x HH.out _).mono ?_; rintro e w2 ⟨rfl, hb2⟩; have hS2 : Blk w2 w.heap.size 31 (mapXA c x) := hSS.below hb2 hSS.lt; have hK2 : Kept (fun _ => False) w w2 := hK.trans (keptBelow hb2)))
  all_goals
    go_wp2_with fail
    go_ret3
    exact ⟨rfl, hK2⟩

set_option maxRecDepth 100000 in
set_option maxHeartbeats 1000000 in
theorem shape_7 (c : CfgD) (x : Fin 17 → Value) (h : c.Bd) (w : World) : Calls Try.prog 93 #[mapX c x, .int .i64 7] w (ShapeR c (c.t) (1) (3) w) := by
  have HH := Lib.hid h
  clear h
  unfold mapX mapXA
  go_enter Try.func93, Try.ntmps93
  go_wp2_with fail
  go_ret3
  exact ⟨rfl, (Kept.refl _ w).alloc _⟩

set_option maxRecDepth 100000 in
set_option maxHeartbeats 1000000 in
theorem shape_8 (c : CfgD) (x : Fin 17 → Value) (h : c.Bd) (w : World) : Calls Try.prog 93 #[mapX c x, .int .i64 8] w (ShapeR c (c.t) (1) (3) w) := by
  have HH := Lib.hid h
  clear h
  unfold mapX mapXA
  go_enter Try.func93, Try.ntmps93
  go_wp2_with fail
  go_ret3
  exact ⟨rfl, (Kept.refl _ w).alloc _⟩

set_option maxRecDepth 100000 in
set_option maxHeartbeats 1000000 in
theorem shape_9 (c : CfgD) (x : Fin 17 → Value) (h : c.Bd) (w : World) : Calls Try.prog 93 #[mapX c x, .int .i64 9] w (ShapeR c (c.t) (1) (3) w) := by
  have HH := Lib.hid h
  clear h
  unfold mapX mapXA
  go_enter Try.func93, Try.ntmps93
  go_wp2_with fail
  go_ret3
  exact ⟨rfl, (Kept.refl _ w).alloc _⟩

set_option maxRecDepth 100000 in
set_option maxHeartbeats 1000000 in
theorem shape_10 (c : CfgD) (x : Fin 17 → Value) (h : c.Bd) (w : World) : Calls Try.prog 93 #[mapX c x, .int .i64 10] w (ShapeR c (16) (1) (1) w) := by
  have HH := Lib.hid h
  clear h
  unfold mapX mapXA
  go_enter Try.func93, Try.ntmps93
  go_wp2_with fail
  go_ret3
  exact ⟨rfl, (Kept.refl _ w).alloc _⟩

set_option maxRecDepth 100000 in
set_option maxHeartbeats 1000000 in
theorem shape_11 (c : CfgD) (x : Fin 17 → Value) (h : c.Bd) (w : World) : Calls Try.prog 93 #[mapX c x, .int .i64 11] w (ShapeR c (c.b) (1) (1) w) := by
  have HH := Lib.hid h
  clear h
  unfold mapX mapXA
  go_enter Try.func93, Try.ntmps93
  go_wp2_with fail
  go_ret3
  exact ⟨rfl, (Kept.refl _ w).alloc _⟩

set_option maxRecDepth 100000 in
set_option maxHeartbeats 1000000 in
theorem shape_12 (c : CfgD) (x : Fin 17 → Value) (h : c.Bd) (w : World) : Calls Try.prog 93 #[mapX c x, .int .i64 12] w (ShapeR c (1) (1) (1) w) := by
  have HH := Lib.hid h
  clear h
  unfold mapX mapXA
  go_enter Try.func93, Try.ntmps93
  go_wp2_with fail
  go_ret3
  exact ⟨rfl, (Kept.refl _ w).alloc _⟩

set_option maxRecDepth 100000 in
set_option maxHeartbeats 1000000 in
theorem shape_13 (c : CfgD) (x : Fin 17 → Value) (h : c.Bd) (w : World) : Calls Try.prog 93 #[mapX c x, .int .i64 13] w (ShapeR c (c.b) (1) (1) w) := by
  have HH := Lib.hid h
  clear h
  unfold mapX mapXA
  go_enter Try.func93, Try.ntmps93
  go_wp2_with fail
  go_ret3
  exact ⟨rfl, (Kept.refl _ w).alloc _⟩

set_option maxRecDepth 100000 in
set_option maxHeartbeats 1000000 in
theorem shape_14 (c : CfgD) (x : Fin 17 → Value) (h : c.Bd) (w : World) : Calls Try.prog 93 #[mapX c x, .int .i64 14] w (ShapeR c (1) (1) (1) w) := by
  have HH := Lib.hid h
  clear h
  unfold mapX mapXA
  go_enter Try.func93, Try.ntmps93
  go_wp2_with fail
  go_ret3
  exact ⟨rfl, (Kept.refl _ w).alloc _⟩

set_option maxRecDepth 100000 in
set_option maxHeartbeats 1000000 in
theorem shape_15 (c : CfgD) (x : Fin 17 → Value) (h : c.Bd) (w : World) : Calls Try.prog 93 #[mapX c x, .int .i64 15] w (ShapeR c (c.lim) (1) (1) w) := by
  have HH := Lib.hid h
  clear h
  unfold mapX mapXA
  go_enter Try.func93, Try.ntmps93
  have hl : (loadMap ⟨w.heap.size, 0, none⟩).run Try.prog (w.alloc (.cells #[.int .i64 c.t, .int .i64 c.b, .int .i64 c.wr, .int .i64 c.f, .int .u64 c.first, .int .u64 c.last, x 0, x 1, x 2, x 3, x 4, x 5, x 6, x 7, x 8, x 9, x 10, x 11, x 12, x 13, x 14, x 15, x 16] 31)) = .ok (.agg #[.int .i64 c.t, .int .i64 c.b, .int .i64 c.wr, .int .i64 c.f, .int .u64 c.first, .int .u64 c.last, x 0, x 1, x 2, x 3, x 4, x 5, x 6, x 7, x 8, x 9, x 10, x 11, x 12, x 13, x 14, x 15, x 16]) (w.alloc (.cells #[.int .i64 c.t, .int .i64 c.b, .int .i64 c.wr, .int .i64 c.f, .int .u64 c.first, .int .u64 c.last, x 0, x 1, x 2, x 3, x 4, x 5, x 6, x 7, x 8, x 9, x 10, x 11, x 12, x 13, x 14, x 15, x 16] 31)) := loadMap_blk (x := x) (Blk.new _ _ _)
  go_wp2_with (go_at_call 55; refine (limit_calls c x HH.out _).mono ?_; rintro e w1 ⟨rfl, hb⟩)
  go_ret3
  exact ⟨rfl, ((Kept.refl _ w).alloc _).trans (keptBelow hb)⟩

set_option maxRecDepth 100000 in
set_option maxHeartbeats 1000000 in
theorem shape_16 (c : CfgD) (x : Fin 17 → Value) (h : c.Bd) (w : World) : Calls Try.prog 93 #[mapX c x, .int .i64 16] w (ShapeR c (c.b) (8) (8) w) := by
  have HH := Lib.hid h
  clear h
  unfold mapX mapXA
  go_enter Try.func93, Try.ntmps93
  go_wp2_with fail
  go_ret3
  exact ⟨rfl, (Kept.refl _ w).alloc _⟩

set_option maxRecDepth 100000 in
set_option maxHeartbeats 1000000 in
theorem shape_none (c : CfgD) (x : Fin 17 → Value) (k : Int) (hk : k < 0 ∨ 17 ≤ k) (w : World) : Calls Try.prog 93 #[mapX c x, .int .i64 k] w (ShapeR c 0 0 1 w) := by
  have n0 : (k == 0) = false := by simp; omega
  have n1 : (k == 1) = false := by simp; omega
  have n2 : (k == 2) = false := by simp; omega
  have n3 : (k == 3) = false := by simp; omega
  have n4 : (k == 4) = false := by simp; omega
  have n5 : (k == 5) = false := by simp; omega
  have n6 : (k == 6) = false := by simp; omega
  have n7 : (k == 7) = false := by simp; omega
  have n8 : (k == 8) = false := by simp; omega
  have n9 : (k == 9) = false := by simp; omega
  have n10 : (k == 10) = false := by simp; omega
  have n11 : (k == 11) = false := by simp; omega
  have n12 : (k == 12) = false := by simp; omega
  have n13 : (k == 13) = false := by simp; omega
  have n14 : (k == 14) = false := by simp; omega
  have n15 : (k == 15) = false := by simp; omega
  have n16 : (k == 16) = false := by simp; omega
  clear hk
  unfold mapX mapXA
  go_enter Try.func93, Try.ntmps93
  go_wp2_with fail
  go_ret3
  exact ⟨rfl, (Kept.refl _ w).alloc _⟩

theorem shape_calls (c : CfgD) (x : Fin 17 → Value) (h : c.Bd) (k : Nat) (hk : k < 17) (w : World) : Calls Try.prog 93 #[mapX c x, .int .i64 k] w (ShapeR c (c.things k) (c.places k) (c.apart k) w) := by
  match k, hk with
  | 0, _ => exact shape_0 c x h w
  | 1, _ => exact shape_1 c x h w
  | 2, _ => exact shape_2 c x h w
  | 3, _ => exact shape_3 c x h w
  | 4, _ => exact shape_4 c x h w
  | 5, _ => exact shape_5 c x h w
  | 6, _ => exact shape_6 c x h w
  | 7, _ => exact shape_7 c x h w
  | 8, _ => exact shape_8 c x h w
  | 9, _ => exact shape_9 c x h w
  | 10, _ => exact shape_10 c x h w
  | 11, _ => exact shape_11 c x h w
  | 12, _ => exact shape_12 c x h w
  | 13, _ => exact shape_13 c x h w
  | 14, _ => exact shape_14 c x h w
  | 15, _ => exact shape_15 c x h w
  | 16, _ => exact shape_16 c x h w
  | n + 17, hn => omega
end Go.Proofs.Ytebffkoonbkhnaa
