/- Layer 7 (lay): walks: beginnings, Of. -/
/- Layer 7 (lay): walks: Of. -/
/- Layer 7 (lay): walks: shape. -/
import Derived.Test.YthjkodjpopcjaaaLyN
import Derived.Test.YthjkodjpopcjaaaRow
namespace Go.Proofs.Ythjkodjpopcjaaa
open Go.RowKit
attribute [local go_sem ↓] loadMap_eq

set_option maxRecDepth 100000 in
set_option maxHeartbeats 4000000 in
theorem beginnings_calls (c : CfgD) (x : Fin 17 → Value) (h : c.Bd) (w : World) : Calls Try.prog 66 #[mapX c x] w fun e w' => e = .returned (.agg (begA c)) ∧ Below w.heap.size w w' := by
  have HH := Lib.hid h
  obtain ⟨t1, t8, b1, b64, w0, w64, l0, l1, w3, w5, s0, s1⟩ := h
  have s0' : 1 ≤ c.t * c.str := s0
  have s1' : c.t * c.str ≤ 16848 := s1
  have e1 : IntKind.i64.wrap (c.t * c.str) = c.t * c.str := IntWalk.i64_in _ (by omega)
  have e2 : IntKind.i64.wrap (1 + c.t * c.str) = 1 + c.t * c.str := IntWalk.i64_in _ (by omega)
  unfold mapX mapXA
  go_enter Try.func66, Try.ntmps66
  go_wp2_with fail
  go_region_held3 (fun w' => (loadMap ⟨w.heap.size, 0, none⟩).run Try.prog w' = .ok (.agg #[.int .i64 c.t, .int .i64 c.b, .int .i64 c.wr, .int .i64 c.f, .int .u64 c.first, .int .u64 c.last, x 0, x 1, x 2, x 3, x 4, x 5, x 6, x 7, x 8, x 9, x 10, x 11, x 12, x 13, x 14, x 15, x 16]) w' ∧ w'.cell? ⟨w.heap.size, 0, none⟩ = some (.int .i64 c.t))
    (first | assumption | exact ⟨loadMap_blk hSS, hSS.cell 0⟩ | exact ⟨loadMap_blk (c := c) (x := x) (Blk.drew (Blk.alloc (Blk.new _ _ _) _)), (Blk.drew (Blk.alloc (Blk.new _ _ _) _)).cell 0⟩ | (go_keep; done) | (simp [*, go_sem]; done))
    ((go_at_call 90; refine (stride_calls c x HH.out _).mono ?_; rintro e w1 ⟨rfl, hb⟩; have hSS : Blk w1 w.heap.size 31 (mapXA c x) := (Blk.drew (Blk.alloc (Blk.new _ _ _) _)).below hb (by simp; omega); have hS2 : Blk w1 (w.heap.size + 1) 29 #[.int .i64 0, .int .i64 0, .int .i64 0, .int .i64 0, .int .i64 0, .int .i64 0, .int .i64 0, .int .i64 0, .int .i64 0, .int .i64 0, .int .i64 0, .int .i64 0, .int .i64 0, .int .i64 0, .int .i64 0, .int .i64 0, .int .i64 0] := (Blk.drew (Blk.new' _ _ _ _ (by simp))).below hb (by simp)))
  have hl1 : (loadMap ⟨w.heap.size, 0, none⟩).run Try.prog w1 = .ok (.agg #[.int .i64 c.t, .int .i64 c.b, .int .i64 c.wr, .int .i64 c.f, .int .u64 c.first, .int .u64 c.last, x 0, x 1, x 2, x 3, x 4, x 5, x 6, x 7, x 8, x 9, x 10, x 11, x 12, x 13, x 14, x 15, x 16]) w1 := loadMap_blk (x := x) hSS
  have k0 : w1.cell? ⟨w.heap.size, 0, none⟩ = some (.int .i64 c.t) := hSS.cell 0
  have k1 : w1.cell? ⟨w.heap.size, 1, none⟩ = some (.int .i64 c.b) := hSS.cell 1
  have hK : Hid (Kept (fun _ => False) w w1) := Lib.hid (((((Kept.refl _ w).alloc _).alloc _).drew).trans (keptBelow hb))
  have H2 := Lib.hid hS2
  clear e1 e2 hb hS2 hSS
  go_wp2_with (first
    | (go_at_call 50; refine (limit_calls c x HH.out _).mono ?_; rintro e w2 ⟨rfl, hb2⟩; have H22 := Lib.hid (H2.out.below hb2 H2.out.lt); have hK2 := Lib.hid (hK.out.trans (keptBelow hb2)); clear hb2)
    | (refine wpList_store_blk rfl 29 _ _ rfl (w.heap.size + 1) rfl 29 #[.int .i64 0, .int .i64 0, .int .i64 0, .int .i64 0, .int .i64 0, .int .i64 0, .int .i64 0, .int .i64 0, .int .i64 0, .int .i64 0, .int .i64 0, .int .i64 0, .int .i64 0, .int .i64 0, .int .i64 0, .int .i64 0, .int .i64 0] (begA c) rfl H22.out (by kernel_rfl) rfl (begA_one c) ?_; intro w3 hB3 hK3; have HB3 := Lib.hid hB3; have HK3 := Lib.hid hK3; clear hB3 hK3))
  exact bodyPost_ret (v := .agg (begA c)) (results_cell_row rfl _ _ (w.heap.size + 1) 29 (begA c) (0, 0) _ rfl HB3.out Try.underlying29 rfl (by kernel_rfl)) rfl ⟨rfl, (belowKept hK2.out).trans ((HK3.out.toBelow (B := w.heap.size) (hK2.out.size) (fun k hk e => by omega)))⟩
end Go.Proofs.Ythjkodjpopcjaaa

namespace Go.Proofs.Ythjkodjpopcjaaa
open Go.RowKit
attribute [local go_sem ↓] loadMap_eq

def zeroA : Array Value := #[.int .i64 0, .int .i64 0, .int .i64 0, .int .i64 0, .int .u64 0, .int .u64 0, .int .i64 0, .int .i64 0, .int .i64 0, .int .i64 0, .int .i64 0, .int .i64 0, .int .i64 0, .int .i64 0, .int .i64 0, .int .i64 0, .int .i64 0, .int .i64 0, .int .i64 0, .int .i64 0, .int .i64 0, .int .i64 0, .int .i64 0]
theorem zeroA_one : zeroA.all (·.oneCell') = true := by simp [zeroA, Value.oneCell']
theorem mapXA_one0 (c : CfgD) : (mapXA c (fun _ => .int .i64 0)).all (·.oneCell') = true := by simp [mapXA, Value.oneCell']
theorem loadMap_arr {w : World} {B : Nat} {cs : Array Value} (h : Blk w B 31 cs) (hs : cs.size = 23) : (loadMap ⟨B, 0, none⟩).run Try.prog w = .ok (.agg cs) w :=
  run_loadVar_row w B 31 31 cs (0, 0) _ h Try.underlying31 rfl (by rw [hs]; kernel_rfl)

theorem sets_mapA (c : CfgD) : setsA (mapXA c (fun _ => .int .i64 0)) 6 (begA c).toList = mapA c := by simp [setsA, mapXA, begA, mapA]

set_option maxRecDepth 100000 in
set_option maxHeartbeats 4000000 in
theorem of_no (c : CfgD) (h : ¬ c.Ok) (w : World) : Calls Try.prog 19 #[cfgV c] w fun e w' => e = .returned (.tuple #[.agg zeroA, .int .i64 1]) ∧ Below w.heap.size w w' := by
  have HD : Hid (decide c.Ok = false) := Lib.hid (decide_eq_false h)
  clear h
  unfold cfgV
  go_enter Try.func19, Try.ntmps19
  go_wp2_with (first
    | (go_at_call 65; refine (mayBe_calls c _).mono ?_; rintro e w1 ⟨rfl, hb⟩; rw [HD.out]; have H2 : Hid (Blk w1 (w.heap.size + 1) 31 zeroA) := Lib.hid ((Blk.new' _ _ _ _ (by simp)).below hb (by simp)); have hK : Hid (Kept (fun _ => False) w w1) := Lib.hid ((((Kept.refl _ w).alloc _).alloc _).trans (keptBelow hb)); clear hb)
    | (refine wpList_store_blk ?_ 31 (.tmp 2) (.tmp 8) ?_ (w.heap.size + 1) ?_ 31 zeroA zeroA ?_ ?_ ?_ ?_ ?_ ?_; rfl; rfl; rfl; rfl; exact H2.out; kernel_rfl; rfl; exact zeroA_one; intro w3 hB3 hK3; have HB3 := Lib.hid hB3; have HK3 := Lib.hid hK3; clear hB3 hK3))
  exact bodyPost_ret (v := .tuple #[.agg zeroA, .int .i64 1]) (results_cell_slot (q := 3) rfl _ _ (w.heap.size + 1) 31 zeroA (0, 0) _ rfl HB3.out Try.underlying31 rfl (by kernel_rfl)) rfl ⟨rfl, (belowKept hK.out).trans (HK3.out.toBelow (B := w.heap.size) hK.out.size (fun k hk e => by omega))⟩

set_option maxRecDepth 100000 in
set_option maxHeartbeats 4000000 in
theorem of_yes (c : CfgD) (h : c.Ok) (w : World) : Calls Try.prog 19 #[cfgV c] w fun e w' => e = .returned (.tuple #[mapV c, .int .i64 0]) ∧ Below w.heap.size w w' := by
  have HD : Hid (decide c.Ok = true) := Lib.hid (decide_eq_true h)
  have HB := Lib.hid h.bd
  clear h
  unfold cfgV
  go_enter Try.func19, Try.ntmps19
  go_wp2_with (first
    | (go_at_call 65; refine (mayBe_calls c _).mono ?_; rintro e w1 ⟨rfl, hb⟩; rw [HD.out]; have H2 : Hid (Blk w1 (w.heap.size + 1) 31 zeroA) := Lib.hid ((Blk.new' _ _ _ _ (by simp)).below hb (by simp)); have H1 : Blk w1 w.heap.size 24 #[.int .i64 c.t, .int .i64 c.b, .int .i64 c.wr, .int .i64 c.f, .int .u64 c.first, .int .u64 c.last] := (Blk.alloc (Blk.new _ _ _) _).below hb (by first | (simp; done) | (simp only [World.size_alloc]; omega)); have k0 : w1.cell? ⟨w.heap.size, 0, none⟩ = some (.int .i64 c.t) := H1.cell 0; have k1 : w1.cell? ⟨w.heap.size, 1, none⟩ = some (.int .i64 c.b) := H1.cell 1; have k2 : w1.cell? ⟨w.heap.size, 2, none⟩ = some (.int .i64 c.wr) := H1.cell 2; have k3 : w1.cell? ⟨w.heap.size, 3, none⟩ = some (.int .i64 c.f) := H1.cell 3; have k4 : w1.cell? ⟨w.heap.size, 4, none⟩ = some (.int .u64 c.first) := H1.cell 4; have k5 : w1.cell? ⟨w.heap.size, 5, none⟩ = some (.int .u64 c.last) := H1.cell 5; have hK : Hid (Kept (fun _ => False) w w1) := Lib.hid ((((Kept.refl _ w).alloc _).alloc _).trans (keptBelow hb)); have hs1 : w.heap.size + 1 < w1.heap.size := (by have := hb.size; simp at this; first | exact this | omega); clear hb H1)
    | (refine wpList_store_blk ?_ 31 (.tmp 4) (.tmp 10) ?_ w1.heap.size ?_ 31 zeroA (mapXA c (fun _ => .int .i64 0)) ?_ ?_ ?_ ?_ ?_ ?_; rfl; rfl; rfl; rfl; exact (Blk.new _ _ _); kernel_rfl; rfl; exact (mapXA_one0 c); intro w3 hB3 hK3; have HB3 := Lib.hid hB3; have H3 := Lib.hid (hK3.blk (H2.out.alloc _) (by omega)); have HK3 := Lib.hid hK3; have hl3 := loadMap_arr hB3 rfl; clear hB3 hK3 k0 k1 k2 k3 k4 k5))
  have hb3 := HB.out
  go_wp2_with (first
    | (go_at_call 66; refine (beginnings_calls c (fun _ => .int .i64 0) hb3 _).mono ?_; rintro e w4 ⟨rfl, hb⟩; have HB4 := Lib.hid (HB3.out.below hb HB3.out.lt); have H4 := Lib.hid (H3.out.below hb H3.out.lt); have HK4 := Lib.hid (keptBelow hb); clear hb)
    | (refine wpList_store_part ?_ 29 (.tmp 13) (.tmp 12) ?_ w1.heap.size 6 ?_ 31 (mapXA c (fun _ => .int .i64 0)) (begA c) ?_ ?_ ?_ ?_ ?_ ?_; rfl; rfl; rfl; rfl; exact HB4.out; kernel_rfl; (simp [mapXA, begA]); exact (begA_one c); intro w5 hB5 hK5; rw [sets_mapA] at hB5; have HB5 := Lib.hid hB5; have H5 := Lib.hid (hK5.blk H4.out (by omega)); have HK5 := Lib.hid hK5; have hl5 := loadMap_arr HB5.out rfl; clear hB5 hK5)
    | (refine wpList_store_blk ?_ 31 (.tmp 2) (.tmp 14) ?_ (w.heap.size + 1) ?_ 31 zeroA (mapA c) ?_ ?_ ?_ ?_ ?_ ?_; rfl; rfl; rfl; rfl; exact H5.out; kernel_rfl; rfl; exact (mapA_one c); intro w6 hB6 hK6; have HB6 := Lib.hid hB6; have HK6 := Lib.hid hK6; clear hB6 hK6))
  have hz := hK.out.size
  have hz3 := HK3.out.size
  have hz4 := HK4.out.size
  have hz5 := HK5.out.size
  simp only [World.size_alloc] at hz3
  refine bodyPost_ret (v := .tuple #[mapV c, .int .i64 0]) (results_cell_slot (q := 3) rfl _ _ (w.heap.size + 1) 31 (mapA c) (0, 0) _ rfl HB6.out Try.underlying31 rfl (by kernel_rfl)) rfl ⟨rfl, ?_⟩
  have s1 : Below w.heap.size w w1 := belowKept hK.out
  have s2 := s1.alloc (o := .cells #[.int .i64 0, .int .i64 0, .int .i64 0, .int .i64 0, .int .u64 0, .int .u64 0, .int .i64 0, .int .i64 0, .int .i64 0, .int .i64 0, .int .i64 0, .int .i64 0, .int .i64 0, .int .i64 0, .int .i64 0, .int .i64 0, .int .i64 0, .int .i64 0, .int .i64 0, .int .i64 0, .int .i64 0, .int .i64 0, .int .i64 0] 31) hz
  exact (((s2.trans (HK3.out.toBelow (B := w.heap.size) (by simp only [World.size_alloc]; omega) (fun k hk e => by omega))).trans (HK4.out.toBelow (B := w.heap.size) (by omega) (fun k hk e => e))).trans (HK5.out.toBelow (B := w.heap.size) (by omega) (fun k hk e => by omega))).trans (HK6.out.toBelow (B := w.heap.size) (by omega) (fun k hk e => by omega))
end Go.Proofs.Ythjkodjpopcjaaa

namespace Go.Proofs.Ythjkodjpopcjaaa
open Go.RowKit
attribute [local go_sem ↓] loadMap_eq

def ShapeR (c : CfgD) (a b d : Int) (w : World) (e : Ending) (w' : World) : Prop := e = .returned (.tuple #[.int .i64 a, .int .i64 b, .int .i64 d]) ∧ Kept (fun _ => False) w w'

set_option maxRecDepth 100000 in
set_option maxHeartbeats 1000000 in
theorem shape_0 (c : CfgD) (x : Fin 17 → Value) (h : c.Bd) (w : World) : Calls Try.prog 81 #[mapX c x, .int .i64 0] w (ShapeR c (1) (1) (1) w) := by
  have HH := Lib.hid h
  clear h
  unfold mapX mapXA
  go_enter Try.func81, Try.ntmps81
  go_wp2_with fail
  go_ret3
  exact ⟨rfl, (Kept.refl _ w).alloc _⟩

set_option maxRecDepth 100000 in
set_option maxHeartbeats 1000000 in
theorem shape_1 (c : CfgD) (x : Fin 17 → Value) (h : c.Bd) (w : World) : Calls Try.prog 81 #[mapX c x, .int .i64 1] w (ShapeR c (c.t) (1) (c.str) w) := by
  have HH := Lib.hid h
  clear h
  unfold mapX mapXA
  go_enter Try.func81, Try.ntmps81
  go_wp2_with fail
  go_region_held3 (fun w' => (loadMap ⟨w.heap.size, 0, none⟩).run Try.prog w' = .ok (.agg #[.int .i64 c.t, .int .i64 c.b, .int .i64 c.wr, .int .i64 c.f, .int .u64 c.first, .int .u64 c.last, x 0, x 1, x 2, x 3, x 4, x 5, x 6, x 7, x 8, x 9, x 10, x 11, x 12, x 13, x 14, x 15, x 16]) w' ∧ w'.cell? ⟨w.heap.size, 0, none⟩ = some (.int .i64 c.t))
    (first | assumption | exact ⟨loadMap_blk hSS, hSS.cell 0⟩ | exact ⟨loadMap_blk (c := c) (x := x) (Blk.drew (Blk.new _ _ _)), (Blk.drew (Blk.new _ _ _)).cell 0⟩ | exact ⟨loadMap_blk hS2, hS2.cell 0⟩ | (go_keep; done) | (simp [*, go_sem]; done))
    ((go_at_call 90; refine (stride_calls c x HH.out _).mono ?_; rintro e w1 ⟨rfl, hb⟩; have hSS : Blk w1 w.heap.size 31 (mapXA c x) := (Blk.drew (Blk.new _ _ _)).below hb (by simp); have hK : Kept (fun _ => False) w w1 := (((Kept.refl _ w).alloc _).drew).trans (keptBelow hb)))
  go_wp2_with fail
  go_ret3
  exact ⟨rfl, hK⟩

set_option maxRecDepth 100000 in
set_option maxHeartbeats 1000000 in
theorem shape_2 (c : CfgD) (x : Fin 17 → Value) (h : c.Bd) (w : World) : Calls Try.prog 81 #[mapX c x, .int .i64 2] w (ShapeR c (c.t) (4) (c.str) w) := by
  have HH := Lib.hid h
  clear h
  unfold mapX mapXA
  go_enter Try.func81, Try.ntmps81
  go_wp2_with fail
  go_region_held3 (fun w' => (loadMap ⟨w.heap.size, 0, none⟩).run Try.prog w' = .ok (.agg #[.int .i64 c.t, .int .i64 c.b, .int .i64 c.wr, .int .i64 c.f, .int .u64 c.first, .int .u64 c.last, x 0, x 1, x 2, x 3, x 4, x 5, x 6, x 7, x 8, x 9, x 10, x 11, x 12, x 13, x 14, x 15, x 16]) w' ∧ w'.cell? ⟨w.heap.size, 0, none⟩ = some (.int .i64 c.t))
    (first | assumption | exact ⟨loadMap_blk hSS, hSS.cell 0⟩ | exact ⟨loadMap_blk (c := c) (x := x) (Blk.drew (Blk.new _ _ _)), (Blk.drew (Blk.new _ _ _)).cell 0⟩ | exact ⟨loadMap_blk hS2, hS2.cell 0⟩ | (go_keep; done) | (simp [*, go_sem]; done))
    ((go_at_call 90; refine (stride_calls c x HH.out _).mono ?_; rintro e w1 ⟨rfl, hb⟩; have hSS : Blk w1 w.heap.size 31 (mapXA c x) := (Blk.drew (Blk.new _ _ _)).below hb (by simp); have hK : Kept (fun _ => False) w w1 := (((Kept.refl _ w).alloc _).drew).trans (keptBelow hb)))
  go_wp2_with fail
  go_ret3
  exact ⟨rfl, hK⟩

set_option maxRecDepth 100000 in
set_option maxHeartbeats 1000000 in
theorem shape_3 (c : CfgD) (x : Fin 17 → Value) (h : c.Bd) (w : World) : Calls Try.prog 81 #[mapX c x, .int .i64 3] w (ShapeR c (c.t) (1) (c.str) w) := by
  have HH := Lib.hid h
  clear h
  unfold mapX mapXA
  go_enter Try.func81, Try.ntmps81
  go_wp2_with fail
  go_region_held3 (fun w' => (loadMap ⟨w.heap.size, 0, none⟩).run Try.prog w' = .ok (.agg #[.int .i64 c.t, .int .i64 c.b, .int .i64 c.wr, .int .i64 c.f, .int .u64 c.first, .int .u64 c.last, x 0, x 1, x 2, x 3, x 4, x 5, x 6, x 7, x 8, x 9, x 10, x 11, x 12, x 13, x 14, x 15, x 16]) w' ∧ w'.cell? ⟨w.heap.size, 0, none⟩ = some (.int .i64 c.t))
    (first | assumption | exact ⟨loadMap_blk hSS, hSS.cell 0⟩ | exact ⟨loadMap_blk (c := c) (x := x) (Blk.drew (Blk.new _ _ _)), (Blk.drew (Blk.new _ _ _)).cell 0⟩ | exact ⟨loadMap_blk hS2, hS2.cell 0⟩ | (go_keep; done) | (simp [*, go_sem]; done))
    ((go_at_call 90; refine (stride_calls c x HH.out _).mono ?_; rintro e w1 ⟨rfl, hb⟩; have hSS : Blk w1 w.heap.size 31 (mapXA c x) := (Blk.drew (Blk.new _ _ _)).below hb (by simp); have hK : Kept (fun _ => False) w w1 := (((Kept.refl _ w).alloc _).drew).trans (keptBelow hb)))
  go_wp2_with fail
  go_ret3
  exact ⟨rfl, hK⟩

set_option maxRecDepth 100000 in
set_option maxHeartbeats 1000000 in
theorem shape_4 (c : CfgD) (x : Fin 17 → Value) (h : c.Bd) (w : World) : Calls Try.prog 81 #[mapX c x, .int .i64 4] w (ShapeR c (c.t) (1) (c.str) w) := by
  have HH := Lib.hid h
  clear h
  unfold mapX mapXA
  go_enter Try.func81, Try.ntmps81
  go_wp2_with fail
  go_region_held3 (fun w' => (loadMap ⟨w.heap.size, 0, none⟩).run Try.prog w' = .ok (.agg #[.int .i64 c.t, .int .i64 c.b, .int .i64 c.wr, .int .i64 c.f, .int .u64 c.first, .int .u64 c.last, x 0, x 1, x 2, x 3, x 4, x 5, x 6, x 7, x 8, x 9, x 10, x 11, x 12, x 13, x 14, x 15, x 16]) w' ∧ w'.cell? ⟨w.heap.size, 0, none⟩ = some (.int .i64 c.t))
    (first | assumption | exact ⟨loadMap_blk hSS, hSS.cell 0⟩ | exact ⟨loadMap_blk (c := c) (x := x) (Blk.drew (Blk.new _ _ _)), (Blk.drew (Blk.new _ _ _)).cell 0⟩ | exact ⟨loadMap_blk hS2, hS2.cell 0⟩ | (go_keep; done) | (simp [*, go_sem]; done))
    ((go_at_call 90; refine (stride_calls c x HH.out _).mono ?_; rintro e w1 ⟨rfl, hb⟩; have hSS : Blk w1 w.heap.size 31 (mapXA c x) := (Blk.drew (Blk.new _ _ _)).below hb (by simp); have hK : Kept (fun _ => False) w w1 := (((Kept.refl _ w).alloc _).drew).trans (keptBelow hb)))
  go_wp2_with fail
  go_ret3
  exact ⟨rfl, hK⟩

set_option maxRecDepth 100000 in
set_option maxHeartbeats 1000000 in
theorem shape_5 (c : CfgD) (x : Fin 17 → Value) (h : c.Bd) (w : World) : Calls Try.prog 81 #[mapX c x, .int .i64 5] w (ShapeR c (c.t) (1) (c.str) w) := by
  have HH := Lib.hid h
  clear h
  unfold mapX mapXA
  go_enter Try.func81, Try.ntmps81
  go_wp2_with fail
  go_region_held3 (fun w' => (loadMap ⟨w.heap.size, 0, none⟩).run Try.prog w' = .ok (.agg #[.int .i64 c.t, .int .i64 c.b, .int .i64 c.wr, .int .i64 c.f, .int .u64 c.first, .int .u64 c.last, x 0, x 1, x 2, x 3, x 4, x 5, x 6, x 7, x 8, x 9, x 10, x 11, x 12, x 13, x 14, x 15, x 16]) w' ∧ w'.cell? ⟨w.heap.size, 0, none⟩ = some (.int .i64 c.t))
    (first | assumption | exact ⟨loadMap_blk hSS, hSS.cell 0⟩ | exact ⟨loadMap_blk (c := c) (x := x) (Blk.drew (Blk.new _ _ _)), (Blk.drew (Blk.new _ _ _)).cell 0⟩ | exact ⟨loadMap_blk hS2, hS2.cell 0⟩ | (go_keep; done) | (simp [*, go_sem]; done))
    ((go_at_call 90; refine (stride_calls c x HH.out _).mono ?_; rintro e w1 ⟨rfl, hb⟩; have hSS : Blk w1 w.heap.size 31 (mapXA c x) := (Blk.drew (Blk.new _ _ _)).below hb (by simp); have hK : Kept (fun _ => False) w w1 := (((Kept.refl _ w).alloc _).drew).trans (keptBelow hb)))
  go_wp2_with fail
  go_ret3
  exact ⟨rfl, hK⟩

set_option maxRecDepth 100000 in
set_option maxHeartbeats 1000000 in
theorem shape_6 (c : CfgD) (x : Fin 17 → Value) (h : c.Bd) (w : World) : Calls Try.prog 81 #[mapX c x, .int .i64 6] w (ShapeR c (c.t) (c.cap) (c.str) w) := by
  have HH := Lib.hid h
  clear h
  unfold mapX mapXA
  go_enter Try.func81, Try.ntmps81
  go_wp2_with fail
  go_region_held3 (fun w' => (loadMap ⟨w.heap.size, 0, none⟩).run Try.prog w' = .ok (.agg #[.int .i64 c.t, .int .i64 c.b, .int .i64 c.wr, .int .i64 c.f, .int .u64 c.first, .int .u64 c.last, x 0, x 1, x 2, x 3, x 4, x 5, x 6, x 7, x 8, x 9, x 10, x 11, x 12, x 13, x 14, x 15, x 16]) w' ∧ w'.cell? ⟨w.heap.size, 0, none⟩ = some (.int .i64 c.t))
    (first | assumption | exact ⟨loadMap_blk hSS, hSS.cell 0⟩ | exact ⟨loadMap_blk (c := c) (x := x) (Blk.drew (Blk.new _ _ _)), (Blk.drew (Blk.new _ _ _)).cell 0⟩ | exact ⟨loadMap_blk hS2, hS2.cell 0⟩ | (go_keep; done) | (simp [*, go_sem]; done))
    (first | (go_at_call 90; refine (stride_calls c x HH.out _).mono ?_; rintro e w1 ⟨rfl, hb⟩; have hSS : Blk w1 w.heap.size 31 (mapXA c x) := (Blk.drew (Blk.new _ _ _)).below hb (by simp); have hK : Kept (fun _ => False) w w1 := (((Kept.refl _ w).alloc _).drew).trans (keptBelow hb)) | (go_at_call 95; refine (cap_calls c x HH.out _).mono ?_; rintro e w1 ⟨rfl, hb⟩; have hSS : Blk w1 w.heap.size 31 (mapXA c x) := (Blk.drew (Blk.new _ _ _)).below hb (by simp); have hK : Kept (fun _ => False) w w1 := (((Kept.refl _ w).alloc _).drew).trans (keptBelow hb)) | (go_at_call 95; refine (cap_calls c x HH.out _).mono ?_; rintro e w2 ⟨rfl, hb2⟩; have hS2 : Blk w2 w.heap.size 31 (mapXA c x) := hSS.below hb2 hSS.lt; have hK2 : Kept (fun _ => False) w w2 := hK.trans (keptBelow hb2)) | (go_at_call 90; refine (stride_calls c x HH.out _).mono ?_; rintro e w2 ⟨rfl, hb2⟩; have hS2 : Blk w2 w.heap.size 31 (mapXA c x) := hSS.below hb2 hSS.lt; have hK2 : Kept (fun _ => False) w w2 := hK.trans (keptBelow hb2)))
  all_goals
    go_wp2_with fail
    go_ret3
    exact ⟨rfl, hK2⟩

set_option maxRecDepth 100000 in
set_option maxHeartbeats 1000000 in
theorem shape_7 (c : CfgD) (x : Fin 17 → Value) (h : c.Bd) (w : World) : Calls Try.prog 81 #[mapX c x, .int .i64 7] w (ShapeR c (c.t) (1) (3) w) := by
  have HH := Lib.hid h
  clear h
  unfold mapX mapXA
  go_enter Try.func81, Try.ntmps81
  go_wp2_with fail
  go_ret3
  exact ⟨rfl, (Kept.refl _ w).alloc _⟩

set_option maxRecDepth 100000 in
set_option maxHeartbeats 1000000 in
theorem shape_8 (c : CfgD) (x : Fin 17 → Value) (h : c.Bd) (w : World) : Calls Try.prog 81 #[mapX c x, .int .i64 8] w (ShapeR c (c.t) (1) (3) w) := by
  have HH := Lib.hid h
  clear h
  unfold mapX mapXA
  go_enter Try.func81, Try.ntmps81
  go_wp2_with fail
  go_ret3
  exact ⟨rfl, (Kept.refl _ w).alloc _⟩

set_option maxRecDepth 100000 in
set_option maxHeartbeats 1000000 in
theorem shape_9 (c : CfgD) (x : Fin 17 → Value) (h : c.Bd) (w : World) : Calls Try.prog 81 #[mapX c x, .int .i64 9] w (ShapeR c (c.t) (1) (3) w) := by
  have HH := Lib.hid h
  clear h
  unfold mapX mapXA
  go_enter Try.func81, Try.ntmps81
  go_wp2_with fail
  go_ret3
  exact ⟨rfl, (Kept.refl _ w).alloc _⟩

set_option maxRecDepth 100000 in
set_option maxHeartbeats 1000000 in
theorem shape_10 (c : CfgD) (x : Fin 17 → Value) (h : c.Bd) (w : World) : Calls Try.prog 81 #[mapX c x, .int .i64 10] w (ShapeR c (16) (1) (1) w) := by
  have HH := Lib.hid h
  clear h
  unfold mapX mapXA
  go_enter Try.func81, Try.ntmps81
  go_wp2_with fail
  go_ret3
  exact ⟨rfl, (Kept.refl _ w).alloc _⟩

set_option maxRecDepth 100000 in
set_option maxHeartbeats 1000000 in
theorem shape_11 (c : CfgD) (x : Fin 17 → Value) (h : c.Bd) (w : World) : Calls Try.prog 81 #[mapX c x, .int .i64 11] w (ShapeR c (c.b) (1) (1) w) := by
  have HH := Lib.hid h
  clear h
  unfold mapX mapXA
  go_enter Try.func81, Try.ntmps81
  go_wp2_with fail
  go_ret3
  exact ⟨rfl, (Kept.refl _ w).alloc _⟩

set_option maxRecDepth 100000 in
set_option maxHeartbeats 1000000 in
theorem shape_12 (c : CfgD) (x : Fin 17 → Value) (h : c.Bd) (w : World) : Calls Try.prog 81 #[mapX c x, .int .i64 12] w (ShapeR c (1) (1) (1) w) := by
  have HH := Lib.hid h
  clear h
  unfold mapX mapXA
  go_enter Try.func81, Try.ntmps81
  go_wp2_with fail
  go_ret3
  exact ⟨rfl, (Kept.refl _ w).alloc _⟩

set_option maxRecDepth 100000 in
set_option maxHeartbeats 1000000 in
theorem shape_13 (c : CfgD) (x : Fin 17 → Value) (h : c.Bd) (w : World) : Calls Try.prog 81 #[mapX c x, .int .i64 13] w (ShapeR c (c.b) (1) (1) w) := by
  have HH := Lib.hid h
  clear h
  unfold mapX mapXA
  go_enter Try.func81, Try.ntmps81
  go_wp2_with fail
  go_ret3
  exact ⟨rfl, (Kept.refl _ w).alloc _⟩

set_option maxRecDepth 100000 in
set_option maxHeartbeats 1000000 in
theorem shape_14 (c : CfgD) (x : Fin 17 → Value) (h : c.Bd) (w : World) : Calls Try.prog 81 #[mapX c x, .int .i64 14] w (ShapeR c (1) (1) (1) w) := by
  have HH := Lib.hid h
  clear h
  unfold mapX mapXA
  go_enter Try.func81, Try.ntmps81
  go_wp2_with fail
  go_ret3
  exact ⟨rfl, (Kept.refl _ w).alloc _⟩

set_option maxRecDepth 100000 in
set_option maxHeartbeats 1000000 in
theorem shape_15 (c : CfgD) (x : Fin 17 → Value) (h : c.Bd) (w : World) : Calls Try.prog 81 #[mapX c x, .int .i64 15] w (ShapeR c (c.lim) (1) (1) w) := by
  have HH := Lib.hid h
  clear h
  unfold mapX mapXA
  go_enter Try.func81, Try.ntmps81
  have hl : (loadMap ⟨w.heap.size, 0, none⟩).run Try.prog (w.alloc (.cells #[.int .i64 c.t, .int .i64 c.b, .int .i64 c.wr, .int .i64 c.f, .int .u64 c.first, .int .u64 c.last, x 0, x 1, x 2, x 3, x 4, x 5, x 6, x 7, x 8, x 9, x 10, x 11, x 12, x 13, x 14, x 15, x 16] 31)) = .ok (.agg #[.int .i64 c.t, .int .i64 c.b, .int .i64 c.wr, .int .i64 c.f, .int .u64 c.first, .int .u64 c.last, x 0, x 1, x 2, x 3, x 4, x 5, x 6, x 7, x 8, x 9, x 10, x 11, x 12, x 13, x 14, x 15, x 16]) (w.alloc (.cells #[.int .i64 c.t, .int .i64 c.b, .int .i64 c.wr, .int .i64 c.f, .int .u64 c.first, .int .u64 c.last, x 0, x 1, x 2, x 3, x 4, x 5, x 6, x 7, x 8, x 9, x 10, x 11, x 12, x 13, x 14, x 15, x 16] 31)) := loadMap_blk (x := x) (Blk.new _ _ _)
  go_wp2_with (go_at_call 50; refine (limit_calls c x HH.out _).mono ?_; rintro e w1 ⟨rfl, hb⟩)
  go_ret3
  exact ⟨rfl, ((Kept.refl _ w).alloc _).trans (keptBelow hb)⟩

set_option maxRecDepth 100000 in
set_option maxHeartbeats 1000000 in
theorem shape_16 (c : CfgD) (x : Fin 17 → Value) (h : c.Bd) (w : World) : Calls Try.prog 81 #[mapX c x, .int .i64 16] w (ShapeR c (c.b) (8) (8) w) := by
  have HH := Lib.hid h
  clear h
  unfold mapX mapXA
  go_enter Try.func81, Try.ntmps81
  go_wp2_with fail
  go_ret3
  exact ⟨rfl, (Kept.refl _ w).alloc _⟩

set_option maxRecDepth 100000 in
set_option maxHeartbeats 1000000 in
theorem shape_none (c : CfgD) (x : Fin 17 → Value) (k : Int) (hk : k < 0 ∨ 17 ≤ k) (w : World) : Calls Try.prog 81 #[mapX c x, .int .i64 k] w (ShapeR c 0 0 1 w) := by
  have n0 : (k == 0) = false := by simp; omega
  have n1 : (k == 1) = false := by simp; omega
  have n2 : (k == 2) = false := by simp; omega
  have n3 : (k == 3) = false := by simp; omega
  have n4 : (k == 4) = false := by simp; omega
  have n5 : (k == 5) = false := by simp; omega
  have n6 : (k == 6) = false := by simp; omega
  have n7 : (k == 7) = false := by simp; omega
  have n8 : (k == 8) = false := by simp; omega
  have n9 : (k == 9) = false := by simp; omega
  have n10 : (k == 10) = false := by simp; omega
  have n11 : (k == 11) = false := by simp; omega
  have n12 : (k == 12) = false := by simp; omega
  have n13 : (k == 13) = false := by simp; omega
  have n14 : (k == 14) = false := by simp; omega
  have n15 : (k == 15) = false := by simp; omega
  have n16 : (k == 16) = false := by simp; omega
  clear hk
  unfold mapX mapXA
  go_enter Try.func81, Try.ntmps81
  go_wp2_with fail
  go_ret3
  exact ⟨rfl, (Kept.refl _ w).alloc _⟩

theorem shape_calls (c : CfgD) (x : Fin 17 → Value) (h : c.Bd) (k : Nat) (hk : k < 17) (w : World) : Calls Try.prog 81 #[mapX c x, .int .i64 k] w (ShapeR c (c.things k) (c.places k) (c.apart k) w) := by
  match k, hk with
  | 0, _ => exact shape_0 c x h w
  | 1, _ => exact shape_1 c x h w
  | 2, _ => exact shape_2 c x h w
  | 3, _ => exact shape_3 c x h w
  | 4, _ => exact shape_4 c x h w
  | 5, _ => exact shape_5 c x h w
  | 6, _ => exact shape_6 c x h w
  | 7, _ => exact shape_7 c x h w
  | 8, _ => exact shape_8 c x h w
  | 9, _ => exact shape_9 c x h w
  | 10, _ => exact shape_10 c x h w
  | 11, _ => exact shape_11 c x h w
  | 12, _ => exact shape_12 c x h w
  | 13, _ => exact shape_13 c x h w
  | 14, _ => exact shape_14 c x h w
  | 15, _ => exact shape_15 c x h w
  | 16, _ => exact shape_16 c x h w
  | n + 17, hn => omega
end Go.Proofs.Ythjkodjpopcjaaa
