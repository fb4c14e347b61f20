/- Layer 7 (lay): walks: beginnings, Of. -/
import Derived.Test.YtebffkoonbkhnaaLyN
import Derived.Test.YtebffkoonbkhnaaRow
namespace Go.Proofs.Ytebffkoonbkhnaa
open Go.RowKit
attribute [local go_sem ↓] loadMap_eq

set_option maxRecDepth 100000 in
set_option maxHeartbeats 4000000 in
theorem beginnings_calls (c : CfgD) (x : Fin 17 → Value) (h : c.Bd) (w : World) : Calls Try.prog 80 #[mapX c x] w fun e w' => e = .returned (.agg (begA c)) ∧ Below w.heap.size w w' := by
  have HH := Lib.hid h
  obtain ⟨t1, t8, b1, b64, w0, w64, l0, l1, w3, w5, s0, s1⟩ := h
  have s0' : 1 ≤ c.t * c.str := s0
  have s1' : c.t * c.str ≤ 16848 := s1
  have e1 : IntKind.i64.wrap (c.t * c.str) = c.t * c.str := IntWalk.i64_in _ (by omega)
  have e2 : IntKind.i64.wrap (1 + c.t * c.str) = 1 + c.t * c.str := IntWalk.i64_in _ (by omega)
  unfold mapX mapXA
  go_enter Try.func80, Try.ntmps80
  go_wp2_with fail
  go_region_held3 (fun w' => (loadMap ⟨w.heap.size, 0, none⟩).run Try.prog w' = .ok (.agg #[.int .i64 c.t, .int .i64 c.b, .int .i64 c.wr, .int .i64 c.f, .int .u64 c.first, .int .u64 c.last, x 0, x 1, x 2, x 3, x 4, x 5, x 6, x 7, x 8, x 9, x 10, x 11, x 12, x 13, x 14, x 15, x 16]) w' ∧ w'.cell? ⟨w.heap.size, 0, none⟩ = some (.int .i64 c.t))
    (first | assumption | exact ⟨loadMap_blk hSS, hSS.cell 0⟩ | exact ⟨loadMap_blk (c := c) (x := x) (Blk.drew (Blk.alloc (Blk.new _ _ _) _)), (Blk.drew (Blk.alloc (Blk.new _ _ _) _)).cell 0⟩ | (go_keep; done) | (simp [*, go_sem]; done))
    ((go_at_call 99; refine (stride_calls c x HH.out _).mono ?_; rintro e w1 ⟨rfl, hb⟩; have hSS : Blk w1 w.heap.size 31 (mapXA c x) := (Blk.drew (Blk.alloc (Blk.new _ _ _) _)).below hb (by simp; omega); have hS2 : Blk w1 (w.heap.size + 1) 29 #[.int .i64 0, .int .i64 0, .int .i64 0, .int .i64 0, .int .i64 0, .int .i64 0, .int .i64 0, .int .i64 0, .int .i64 0, .int .i64 0, .int .i64 0, .int .i64 0, .int .i64 0, .int .i64 0, .int .i64 0, .int .i64 0, .int .i64 0] := (Blk.drew (Blk.new' _ _ _ _ (by simp))).below hb (by simp)))
  have hl1 : (loadMap ⟨w.heap.size, 0, none⟩).run Try.prog w1 = .ok (.agg #[.int .i64 c.t, .int .i64 c.b, .int .i64 c.wr, .int .i64 c.f, .int .u64 c.first, .int .u64 c.last, x 0, x 1, x 2, x 3, x 4, x 5, x 6, x 7, x 8, x 9, x 10, x 11, x 12, x 13, x 14, x 15, x 16]) w1 := loadMap_blk (x := x) hSS
  have k0 : w1.cell? ⟨w.heap.size, 0, none⟩ = some (.int .i64 c.t) := hSS.cell 0
  have k1 : w1.cell? ⟨w.heap.size, 1, none⟩ = some (.int .i64 c.b) := hSS.cell 1
  have hK : Hid (Kept (fun _ => False) w w1) := Lib.hid (((((Kept.refl _ w).alloc _).alloc _).drew).trans (keptBelow hb))
  have H2 := Lib.hid hS2
  clear e1 e2 hb hS2 hSS
  go_wp2_with (first
    | (go_at_call 55; refine (limit_calls c x HH.out _).mono ?_; rintro e w2 ⟨rfl, hb2⟩; have H22 := Lib.hid (H2.out.below hb2 H2.out.lt); have hK2 := Lib.hid (hK.out.trans (keptBelow hb2)); clear hb2)
    | (refine wpList_store_blk rfl 29 _ _ rfl (w.heap.size + 1) rfl 29 #[.int .i64 0, .int .i64 0, .int .i64 0, .int .i64 0, .int .i64 0, .int .i64 0, .int .i64 0, .int .i64 0, .int .i64 0, .int .i64 0, .int .i64 0, .int .i64 0, .int .i64 0, .int .i64 0, .int .i64 0, .int .i64 0, .int .i64 0] (begA c) rfl H22.out (by kernel_rfl) rfl (begA_one c) ?_; intro w3 hB3 hK3; have HB3 := Lib.hid hB3; have HK3 := Lib.hid hK3; clear hB3 hK3))
  exact bodyPost_ret (v := .agg (begA c)) (results_cell_row rfl _ _ (w.heap.size + 1) 29 (begA c) (0, 0) _ rfl HB3.out Try.underlying29 rfl (by kernel_rfl)) rfl ⟨rfl, (belowKept hK2.out).trans ((HK3.out.toBelow (B := w.heap.size) (hK2.out.size) (fun k hk e => by omega)))⟩
end Go.Proofs.Ytebffkoonbkhnaa
