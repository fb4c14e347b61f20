/- Layer 7 (lay): walks: Cap, Stride, Size, beginnings, mayBe, Of. -/
import Derived.Test.YthjkodjpopcjaaaLyM
namespace Go.Proofs.Ythjkodjpopcjaaa
open Go.RowKit
attribute [local go_sem ↓] loadMap_eq

set_option maxRecDepth 100000 in
set_option maxHeartbeats 1000000 in
theorem cap_calls (c : CfgD) (x : Fin 17 → Value) (h : c.Bd) (w : World) : Calls Try.prog 95 #[mapX c x] w fun e w' => e = .returned (.int .i64 c.cap) ∧ Below w.heap.size w w' := by
  have HH := Lib.hid h
  obtain ⟨t1, t8, b1, b64, w0, w64, l0, l1, w3, w5, s0, s1⟩ := h
  have l0' : 3 ≤ c.t * (c.wr + 3) := w3
  have l1' : c.t * (c.wr + 3) ≤ 536 := w5
  unfold mapX mapXA
  go_enter Try.func95, Try.ntmps95
  go_wp2_with fail
  go_region_held3 (fun w' => (loadMap ⟨w.heap.size, 0, none⟩).run Try.prog w' = .ok (.agg #[.int .i64 c.t, .int .i64 c.b, .int .i64 c.wr, .int .i64 c.f, .int .u64 c.first, .int .u64 c.last, x 0, x 1, x 2, x 3, x 4, x 5, x 6, x 7, x 8, x 9, x 10, x 11, x 12, x 13, x 14, x 15, x 16]) w' ∧ w'.cell? ⟨w.heap.size, 0, none⟩ = some (.int .i64 c.t) ∧ w'.cell? ⟨w.heap.size, 2, none⟩ = some (.int .i64 c.wr))
    (first | assumption | exact ⟨loadMap_blk hSS, hSS.cell 0, hSS.cell 2⟩ | (have hS1 : Blk _ w.heap.size 31 (mapXA c x) := Blk.drew (Blk.new _ _ _); exact ⟨loadMap_blk hS1, hS1.cell 0, hS1.cell 2⟩) | (go_keep; done) | (simp [*, go_sem]; done))
    ((go_at_call 50; refine (limit_calls c x HH.out _).mono ?_; rintro e w1 ⟨rfl, hb⟩; have hSS : Blk w1 w.heap.size 31 (mapXA c x) := (Blk.drew (Blk.new _ _ _)).below hb (by simp)))
  go_wp2_with fail
  go_ret
  have e1 : IntKind.i64.wrap (c.wr + 3) = c.wr + 3 := IntWalk.i64_in _ (by omega)
  have e2 : IntKind.i64.wrap (c.t * (c.wr + 3)) = c.t * (c.wr + 3) := IntWalk.i64_in _ (by omega)
  have e3 : IntKind.i64.wrap (3 * c.lim) = 3 * c.lim := IntWalk.i64_in _ (by omega)
  have e4 : IntKind.i64.wrap (c.t * (c.wr + 3) + 3 * c.lim) = c.t * (c.wr + 3) + 3 * c.lim := IntWalk.i64_in _ (by omega)
  have e5 : IntKind.i64.wrap (c.t * (c.wr + 3) + 3 * c.lim + 2) = c.t * (c.wr + 3) + 3 * c.lim + 2 := IntWalk.i64_in _ (by omega)
  refine ⟨ret_i (by rw [e1, e2, e3, e4, e5]; rfl), (((Below.refl _ _).alloc (Nat.le_refl _) _).drew).trans (hb.mono (by simp))⟩

set_option maxRecDepth 100000 in
set_option maxHeartbeats 1000000 in
theorem stride_calls (c : CfgD) (x : Fin 17 → Value) (h : c.Bd) (w : World) : Calls Try.prog 90 #[mapX c x] w fun e w' => e = .returned (.int .i64 c.str) ∧ Below w.heap.size w w' := by
  have HH := Lib.hid h
  obtain ⟨t1, t8, b1, b64, w0, w64, l0, l1, w3, w5, s0, s1⟩ := h
  have cb : 0 ≤ c.cap ∧ c.cap ≤ 5000 := by unfold CfgD.cap; omega
  obtain ⟨cb1, cb2⟩ := cb
  unfold mapX mapXA
  have hl : (loadMap ⟨w.heap.size, 0, none⟩).run Try.prog (w.alloc (.cells #[.int .i64 c.t, .int .i64 c.b, .int .i64 c.wr, .int .i64 c.f, .int .u64 c.first, .int .u64 c.last, x 0, x 1, x 2, x 3, x 4, x 5, x 6, x 7, x 8, x 9, x 10, x 11, x 12, x 13, x 14, x 15, x 16] 31)) = .ok (.agg #[.int .i64 c.t, .int .i64 c.b, .int .i64 c.wr, .int .i64 c.f, .int .u64 c.first, .int .u64 c.last, x 0, x 1, x 2, x 3, x 4, x 5, x 6, x 7, x 8, x 9, x 10, x 11, x 12, x 13, x 14, x 15, x 16]) (w.alloc (.cells #[.int .i64 c.t, .int .i64 c.b, .int .i64 c.wr, .int .i64 c.f, .int .u64 c.first, .int .u64 c.last, x 0, x 1, x 2, x 3, x 4, x 5, x 6, x 7, x 8, x 9, x 10, x 11, x 12, x 13, x 14, x 15, x 16] 31)) := loadMap_blk (x := x) (Blk.new _ _ _)
  go_enter Try.func90, Try.ntmps90
  go_wp2_with (go_at_call 95; refine (cap_calls c x HH.out _).mono ?_; rintro e w1 ⟨rfl, hb⟩)
  go_ret
  exact ⟨rfl, ((Below.refl _ _).alloc (Nat.le_refl _) _).trans (hb.mono (by simp))⟩

set_option maxRecDepth 100000 in
set_option maxHeartbeats 4000000 in
theorem mayBe_calls (c : CfgD) (w : World) : Calls Try.prog 65 #[cfgV c] w fun e w' => e = .returned (.bool (decide c.Ok)) ∧ Below w.heap.size w w' := by
  have HO := Lib.hid (ok_win c)
  unfold cfgV
  cases h0 : win c.t 1 8
  · have HO' := HO.out
    rw [h0] at HO'
    clear HO
    have HO := Lib.hid HO'
    clear HO'
    go_enter Try.func65, Try.ntmps65
    go_wp2_with (go_at_call 82; refine (within_calls _ _ _ _).mono ?_; rintro e w1 ⟨rfl, rfl⟩)
    go_ret
    exact ⟨by rw [HO.out]; simp, ((Below.refl _ _).alloc (Nat.le_refl _) _)⟩
  · cases h1 : win c.b 1 64
    · have HO' := HO.out
      rw [h0, h1] at HO'
      clear HO
      have HO := Lib.hid HO'
      clear HO'
      go_enter Try.func65, Try.ntmps65
      go_wp2_with (go_at_call 82; refine (within_calls _ _ _ _).mono ?_; rintro e w1 ⟨rfl, rfl⟩)
      go_ret
      exact ⟨by rw [HO.out]; simp, ((Below.refl _ _).alloc (Nat.le_refl _) _)⟩
    · cases h2 : win c.wr 0 64
      · have HO' := HO.out
        rw [h0, h1, h2] at HO'
        clear HO
        have HO := Lib.hid HO'
        clear HO'
        go_enter Try.func65, Try.ntmps65
        go_wp2_with (go_at_call 82; refine (within_calls _ _ _ _).mono ?_; rintro e w1 ⟨rfl, rfl⟩)
        go_ret
        exact ⟨by rw [HO.out]; simp, ((Below.refl _ _).alloc (Nat.le_refl _) _)⟩
      · cases h3 : win c.f 1 1000
        · have HO' := HO.out
          rw [h0, h1, h2, h3] at HO'
          clear HO
          have HO := Lib.hid HO'
          clear HO'
          go_enter Try.func65, Try.ntmps65
          go_wp2_with (go_at_call 82; refine (within_calls _ _ _ _).mono ?_; rintro e w1 ⟨rfl, rfl⟩)
          go_ret
          exact ⟨by rw [HO.out]; simp, ((Below.refl _ _).alloc (Nat.le_refl _) _)⟩
        · have HO' := HO.out
          rw [h0, h1, h2, h3] at HO'
          clear HO
          have HO := Lib.hid HO'
          clear HO'
          by_cases h5 : c.first ≤ c.last
          · by_cases h6 : c.last ≤ 140737488355328
            · go_enter Try.func65, Try.ntmps65
              go_wp2_with (go_at_call 82; refine (within_calls _ _ _ _).mono ?_; rintro e w1 ⟨rfl, rfl⟩)
              go_ret
              exact ⟨by rw [HO.out]; simp [h5, h6], ((Below.refl _ _).alloc (Nat.le_refl _) _)⟩
            · have h6' : 140737488355328 < c.last := by omega
              go_enter Try.func65, Try.ntmps65
              go_wp2_with (go_at_call 82; refine (within_calls _ _ _ _).mono ?_; rintro e w1 ⟨rfl, rfl⟩)
              go_ret
              exact ⟨by rw [HO.out]; simp [h5, h6], ((Below.refl _ _).alloc (Nat.le_refl _) _)⟩
          · have h5' : c.last < c.first := by omega
            go_enter Try.func65, Try.ntmps65
            go_wp2_with (go_at_call 82; refine (within_calls _ _ _ _).mono ?_; rintro e w1 ⟨rfl, rfl⟩)
            go_ret
            exact ⟨by rw [HO.out]; simp; omega, ((Below.refl _ _).alloc (Nat.le_refl _) _)⟩
end Go.Proofs.Ythjkodjpopcjaaa
