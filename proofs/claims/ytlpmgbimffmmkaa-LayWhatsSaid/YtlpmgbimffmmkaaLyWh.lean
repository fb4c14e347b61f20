/- LayWhats: the walk of the law. -/
import Derived.Test.YtlpmgbimffmmkaaLyZ
import Derived.Test.YtlpmgbimffmmkaaLyRd
namespace Go.Proofs.Ytlpmgbimffmmkaa
open Go.RowKit
attribute [local go_sem ↓] loadMap_eq

set_option maxRecDepth 100000 in
set_option maxHeartbeats 4000000 in
theorem whats_no (c : CfgD) (h : ¬ c.Ok) (p : Int) (w : World) : Calls Try.prog 5 #[cfgV c, .int .i64 p] w (Good w) := by
  have HD := Lib.hid (decide_eq_false h)
  clear h
  unfold cfgV
  go_enter Try.func5, Try.ntmps5
  go_wp2_with (first
    | (go_at_call 13; refine (alive_calls _).mono ?_; rintro e w1 ⟨rfl, hk⟩; have H5 : Hid (Blk w1 w.heap.size 24 #[.int .i64 c.t, .int .i64 c.b, .int .i64 c.wr, .int .i64 c.f, .int .u64 c.first, .int .u64 c.last]) := Lib.hid (hk.blk (Blk.new _ _ _) (fun h => h)); have k0 : w1.cell? ⟨w.heap.size, 0, none⟩ = some (.int .i64 c.t) := H5.out.cell 0; have k1 : w1.cell? ⟨w.heap.size, 1, none⟩ = some (.int .i64 c.b) := H5.out.cell 1; have k2 : w1.cell? ⟨w.heap.size, 2, none⟩ = some (.int .i64 c.wr) := H5.out.cell 2; have k3 : w1.cell? ⟨w.heap.size, 3, none⟩ = some (.int .i64 c.f) := H5.out.cell 3; have k4 : w1.cell? ⟨w.heap.size, 4, none⟩ = some (.int .u64 c.first) := H5.out.cell 4; have k5 : w1.cell? ⟨w.heap.size, 5, none⟩ = some (.int .u64 c.last) := H5.out.cell 5; have HK1 := Lib.hid (((Kept.refl (fun _ => False) w).alloc (.cells #[.int .i64 c.t, .int .i64 c.b, .int .i64 c.wr, .int .i64 c.f, .int .u64 c.first, .int .u64 c.last] 24)).trans hk); clear hk)
    | (go_at_call 15; (refine (right_calls c _).mono ?_); rintro e wr ⟨rfl, hk⟩; rw [HD.out]; replace H5 := Lib.hid (hk.blk H5.out (fun h => h)); replace k0 : wr.cell? ⟨w.heap.size, 0, none⟩ = some (.int .i64 c.t) := H5.out.cell 0; replace k1 : wr.cell? ⟨w.heap.size, 1, none⟩ = some (.int .i64 c.b) := H5.out.cell 1; replace k2 : wr.cell? ⟨w.heap.size, 2, none⟩ = some (.int .i64 c.wr) := H5.out.cell 2; replace k3 : wr.cell? ⟨w.heap.size, 3, none⟩ = some (.int .i64 c.f) := H5.out.cell 3; replace k4 : wr.cell? ⟨w.heap.size, 4, none⟩ = some (.int .u64 c.first) := H5.out.cell 4; replace k5 : wr.cell? ⟨w.heap.size, 5, none⟩ = some (.int .u64 c.last) := H5.out.cell 5; replace HK1 := Lib.hid (HK1.out.trans hk); clear hk))
  go_ret
  exact ⟨rfl, HK1.out⟩

set_option maxRecDepth 100000 in
set_option maxHeartbeats 4000000 in
theorem whats_great (c : CfgD) (h : c.Ok) (p : Int) (hg : ¬ (c.t ≤ 3 ∧ c.b ≤ 8 ∧ c.wr ≤ 9)) (w : World) : Calls Try.prog 5 #[cfgV c, .int .i64 p] w (Good w) := by
  have HD := Lib.hid (decide_eq_true h)
  have HG := Lib.hid hg
  clear h hg
  unfold cfgV
  go_enter Try.func5, Try.ntmps5
  by_cases g1 : c.t ≤ 3
  · by_cases g2 : c.b ≤ 8
    · have g3 : ¬ c.wr ≤ 9 := fun h => HG.out ⟨g1, g2, h⟩
      go_wp2_with (first
        | (go_at_call 13; refine (alive_calls _).mono ?_; rintro e w1 ⟨rfl, hk⟩; have H5 : Hid (Blk w1 w.heap.size 24 #[.int .i64 c.t, .int .i64 c.b, .int .i64 c.wr, .int .i64 c.f, .int .u64 c.first, .int .u64 c.last]) := Lib.hid (hk.blk (Blk.new _ _ _) (fun h => h)); have k0 : w1.cell? ⟨w.heap.size, 0, none⟩ = some (.int .i64 c.t) := H5.out.cell 0; have k1 : w1.cell? ⟨w.heap.size, 1, none⟩ = some (.int .i64 c.b) := H5.out.cell 1; have k2 : w1.cell? ⟨w.heap.size, 2, none⟩ = some (.int .i64 c.wr) := H5.out.cell 2; have k3 : w1.cell? ⟨w.heap.size, 3, none⟩ = some (.int .i64 c.f) := H5.out.cell 3; have k4 : w1.cell? ⟨w.heap.size, 4, none⟩ = some (.int .u64 c.first) := H5.out.cell 4; have k5 : w1.cell? ⟨w.heap.size, 5, none⟩ = some (.int .u64 c.last) := H5.out.cell 5; have HK1 := Lib.hid (((Kept.refl (fun _ => False) w).alloc (.cells #[.int .i64 c.t, .int .i64 c.b, .int .i64 c.wr, .int .i64 c.f, .int .u64 c.first, .int .u64 c.last] 24)).trans hk); clear hk)
        | (go_at_call 15; (refine (right_calls c _).mono ?_); rintro e wr ⟨rfl, hk⟩; rw [HD.out]; replace H5 := Lib.hid (hk.blk H5.out (fun h => h)); replace k0 : wr.cell? ⟨w.heap.size, 0, none⟩ = some (.int .i64 c.t) := H5.out.cell 0; replace k1 : wr.cell? ⟨w.heap.size, 1, none⟩ = some (.int .i64 c.b) := H5.out.cell 1; replace k2 : wr.cell? ⟨w.heap.size, 2, none⟩ = some (.int .i64 c.wr) := H5.out.cell 2; replace k3 : wr.cell? ⟨w.heap.size, 3, none⟩ = some (.int .i64 c.f) := H5.out.cell 3; replace k4 : wr.cell? ⟨w.heap.size, 4, none⟩ = some (.int .u64 c.first) := H5.out.cell 4; replace k5 : wr.cell? ⟨w.heap.size, 5, none⟩ = some (.int .u64 c.last) := H5.out.cell 5; replace HK1 := Lib.hid (HK1.out.trans hk); clear hk))
      go_ret
      exact ⟨rfl, HK1.out⟩
    · go_wp2_with (first
        | (go_at_call 13; refine (alive_calls _).mono ?_; rintro e w1 ⟨rfl, hk⟩; have H5 : Hid (Blk w1 w.heap.size 24 #[.int .i64 c.t, .int .i64 c.b, .int .i64 c.wr, .int .i64 c.f, .int .u64 c.first, .int .u64 c.last]) := Lib.hid (hk.blk (Blk.new _ _ _) (fun h => h)); have k0 : w1.cell? ⟨w.heap.size, 0, none⟩ = some (.int .i64 c.t) := H5.out.cell 0; have k1 : w1.cell? ⟨w.heap.size, 1, none⟩ = some (.int .i64 c.b) := H5.out.cell 1; have k2 : w1.cell? ⟨w.heap.size, 2, none⟩ = some (.int .i64 c.wr) := H5.out.cell 2; have k3 : w1.cell? ⟨w.heap.size, 3, none⟩ = some (.int .i64 c.f) := H5.out.cell 3; have k4 : w1.cell? ⟨w.heap.size, 4, none⟩ = some (.int .u64 c.first) := H5.out.cell 4; have k5 : w1.cell? ⟨w.heap.size, 5, none⟩ = some (.int .u64 c.last) := H5.out.cell 5; have HK1 := Lib.hid (((Kept.refl (fun _ => False) w).alloc (.cells #[.int .i64 c.t, .int .i64 c.b, .int .i64 c.wr, .int .i64 c.f, .int .u64 c.first, .int .u64 c.last] 24)).trans hk); clear hk)
        | (go_at_call 15; (refine (right_calls c _).mono ?_); rintro e wr ⟨rfl, hk⟩; rw [HD.out]; replace H5 := Lib.hid (hk.blk H5.out (fun h => h)); replace k0 : wr.cell? ⟨w.heap.size, 0, none⟩ = some (.int .i64 c.t) := H5.out.cell 0; replace k1 : wr.cell? ⟨w.heap.size, 1, none⟩ = some (.int .i64 c.b) := H5.out.cell 1; replace k2 : wr.cell? ⟨w.heap.size, 2, none⟩ = some (.int .i64 c.wr) := H5.out.cell 2; replace k3 : wr.cell? ⟨w.heap.size, 3, none⟩ = some (.int .i64 c.f) := H5.out.cell 3; replace k4 : wr.cell? ⟨w.heap.size, 4, none⟩ = some (.int .u64 c.first) := H5.out.cell 4; replace k5 : wr.cell? ⟨w.heap.size, 5, none⟩ = some (.int .u64 c.last) := H5.out.cell 5; replace HK1 := Lib.hid (HK1.out.trans hk); clear hk))
      go_ret
      exact ⟨rfl, HK1.out⟩
  · go_wp2_with (first
      | (go_at_call 13; refine (alive_calls _).mono ?_; rintro e w1 ⟨rfl, hk⟩; have H5 : Hid (Blk w1 w.heap.size 24 #[.int .i64 c.t, .int .i64 c.b, .int .i64 c.wr, .int .i64 c.f, .int .u64 c.first, .int .u64 c.last]) := Lib.hid (hk.blk (Blk.new _ _ _) (fun h => h)); have k0 : w1.cell? ⟨w.heap.size, 0, none⟩ = some (.int .i64 c.t) := H5.out.cell 0; have k1 : w1.cell? ⟨w.heap.size, 1, none⟩ = some (.int .i64 c.b) := H5.out.cell 1; have k2 : w1.cell? ⟨w.heap.size, 2, none⟩ = some (.int .i64 c.wr) := H5.out.cell 2; have k3 : w1.cell? ⟨w.heap.size, 3, none⟩ = some (.int .i64 c.f) := H5.out.cell 3; have k4 : w1.cell? ⟨w.heap.size, 4, none⟩ = some (.int .u64 c.first) := H5.out.cell 4; have k5 : w1.cell? ⟨w.heap.size, 5, none⟩ = some (.int .u64 c.last) := H5.out.cell 5; have HK1 := Lib.hid (((Kept.refl (fun _ => False) w).alloc (.cells #[.int .i64 c.t, .int .i64 c.b, .int .i64 c.wr, .int .i64 c.f, .int .u64 c.first, .int .u64 c.last] 24)).trans hk); clear hk)
      | (go_at_call 15; (refine (right_calls c _).mono ?_); rintro e wr ⟨rfl, hk⟩; rw [HD.out]; replace H5 := Lib.hid (hk.blk H5.out (fun h => h)); replace k0 : wr.cell? ⟨w.heap.size, 0, none⟩ = some (.int .i64 c.t) := H5.out.cell 0; replace k1 : wr.cell? ⟨w.heap.size, 1, none⟩ = some (.int .i64 c.b) := H5.out.cell 1; replace k2 : wr.cell? ⟨w.heap.size, 2, none⟩ = some (.int .i64 c.wr) := H5.out.cell 2; replace k3 : wr.cell? ⟨w.heap.size, 3, none⟩ = some (.int .i64 c.f) := H5.out.cell 3; replace k4 : wr.cell? ⟨w.heap.size, 4, none⟩ = some (.int .u64 c.first) := H5.out.cell 4; replace k5 : wr.cell? ⟨w.heap.size, 5, none⟩ = some (.int .u64 c.last) := H5.out.cell 5; replace HK1 := Lib.hid (HK1.out.trans hk); clear hk))
    go_ret
    exact ⟨rfl, HK1.out⟩

theorem run_place_eql (a b d : Int) (W : World) : (binOp .eql 43 (.agg #[.int .i64 a, .int .i64 b, .int .i64 d]) (.agg #[.int .i64 a, .int .i64 b, .int .i64 d])).run Try.prog W = .ok (.bool true) W := by
  simp [go_sem]

set_option maxRecDepth 100000 in
set_option maxHeartbeats 4000000 in
theorem whats_yes (c : CfgD) (h : c.Ok) (p : Int) (hp : Int64 p) (g1 : c.t ≤ 3) (g2 : c.b ≤ 8) (g3 : c.wr ≤ 9) (w : World) : Calls Try.prog 5 #[cfgV c, .int .i64 p] w (Good w) := by
  have HO := Lib.hid h
  have HB := Lib.hid h.bd
  have HD := Lib.hid (decide_eq_true h)
  have HP := Lib.hid hp
  have heq := run_place_eql (c.what p).1 (c.what p).2.1 (c.what p).2.2
  generalize hx : (c.what p).1 = x at *
  generalize hy : (c.what p).2.1 = y at *
  generalize hz : (c.what p).2.2 = z at *
  have HX := Lib.hid hx
  have HY := Lib.hid hy
  have HZ := Lib.hid hz
  clear h hp hx hy hz
  unfold cfgV
  go_enter Try.func5, Try.ntmps5
  go_wp2_with (first
    | (go_at_call 13; refine (alive_calls _).mono ?_; rintro e w1 ⟨rfl, hk⟩; have H5 : Hid (Blk w1 w.heap.size 24 #[.int .i64 c.t, .int .i64 c.b, .int .i64 c.wr, .int .i64 c.f, .int .u64 c.first, .int .u64 c.last]) := Lib.hid (hk.blk (Blk.new _ _ _) (fun h => h)); have k0 : w1.cell? ⟨w.heap.size, 0, none⟩ = some (.int .i64 c.t) := H5.out.cell 0; have k1 : w1.cell? ⟨w.heap.size, 1, none⟩ = some (.int .i64 c.b) := H5.out.cell 1; have k2 : w1.cell? ⟨w.heap.size, 2, none⟩ = some (.int .i64 c.wr) := H5.out.cell 2; have k3 : w1.cell? ⟨w.heap.size, 3, none⟩ = some (.int .i64 c.f) := H5.out.cell 3; have k4 : w1.cell? ⟨w.heap.size, 4, none⟩ = some (.int .u64 c.first) := H5.out.cell 4; have k5 : w1.cell? ⟨w.heap.size, 5, none⟩ = some (.int .u64 c.last) := H5.out.cell 5; have HK1 := Lib.hid (((Kept.refl (fun _ => False) w).alloc (.cells #[.int .i64 c.t, .int .i64 c.b, .int .i64 c.wr, .int .i64 c.f, .int .u64 c.first, .int .u64 c.last] 24)).trans hk); clear hk)
    | (go_at_call 15; (refine (right_calls c _).mono ?_); rintro e wr ⟨rfl, hk⟩; rw [HD.out]; replace H5 := Lib.hid (hk.blk H5.out (fun h => h)); replace k0 : wr.cell? ⟨w.heap.size, 0, none⟩ = some (.int .i64 c.t) := H5.out.cell 0; replace k1 : wr.cell? ⟨w.heap.size, 1, none⟩ = some (.int .i64 c.b) := H5.out.cell 1; replace k2 : wr.cell? ⟨w.heap.size, 2, none⟩ = some (.int .i64 c.wr) := H5.out.cell 2; replace k3 : wr.cell? ⟨w.heap.size, 3, none⟩ = some (.int .i64 c.f) := H5.out.cell 3; replace k4 : wr.cell? ⟨w.heap.size, 4, none⟩ = some (.int .u64 c.first) := H5.out.cell 4; replace k5 : wr.cell? ⟨w.heap.size, 5, none⟩ = some (.int .u64 c.last) := H5.out.cell 5; replace HK1 := Lib.hid (HK1.out.trans hk); clear hk)
    | (go_at_call 14; refine (ofK_yes c HO.out _).mono ?_; rintro e w2 ⟨rfl, hk⟩; have H52 := Lib.hid (hk.blk H5.out (fun h => h)); have HK2 := Lib.hid (HK1.out.trans hk); clear hk; clear k0 k1 k2 k3 k4 k5)
    | (refine wpList_store_blk ?_ 28 (.tmp 5) (.tmp 33) ?_ w2.heap.size ?_ 28 zeroA (mapA c) ?_ ?_ ?_ ?_ ?_ ?_; rfl; rfl; rfl; rfl; exact Blk.new _ _ _; kernel_rfl; rfl; exact (mapA_one c); intro w3 hB3 hk; have H53 := Lib.hid (hk.blk (H52.out.alloc _) (by have := H52.out.lt; omega)); have HM3 := Lib.hid hB3; have HK3 : Hid (Kept (fun _ => False) w w3) := Lib.hid (Kept.fresh (HK2.out.alloc _) hk HK2.out.size); have k0 : w3.cell? ⟨w.heap.size, 0, none⟩ = some (.int .i64 c.t) := H53.out.cell 0; have k1 : w3.cell? ⟨w.heap.size, 1, none⟩ = some (.int .i64 c.b) := H53.out.cell 1; have k2 : w3.cell? ⟨w.heap.size, 2, none⟩ = some (.int .i64 c.wr) := H53.out.cell 2; have k3 : w3.cell? ⟨w.heap.size, 3, none⟩ = some (.int .i64 c.f) := H53.out.cell 3; have k4 : w3.cell? ⟨w.heap.size, 4, none⟩ = some (.int .u64 c.first) := H53.out.cell 4; have k5 : w3.cell? ⟨w.heap.size, 5, none⟩ = some (.int .u64 c.last) := H53.out.cell 5; have hl := loadMap_arr HM3.out rfl; clear hB3 hk)
    | (go_at_call 27; (refine (what_calls c HB.out p HP.out _).mono ?_); rintro e w4 ⟨rfl, hk⟩; rw [HX.out, HY.out, HZ.out]; have H54 := Lib.hid (hk.blk H53.out (fun h => h)); have HK4 := Lib.hid (HK3.out.trans hk); clear hk hl k0 k1 k2 k3 k4 k5; have k0 : w4.cell? ⟨w.heap.size, 0, none⟩ = some (.int .i64 c.t) := H54.out.cell 0; have k1 : w4.cell? ⟨w.heap.size, 1, none⟩ = some (.int .i64 c.b) := H54.out.cell 1; have k2 : w4.cell? ⟨w.heap.size, 2, none⟩ = some (.int .i64 c.wr) := H54.out.cell 2; have k3 : w4.cell? ⟨w.heap.size, 3, none⟩ = some (.int .i64 c.f) := H54.out.cell 3; have k4 : w4.cell? ⟨w.heap.size, 4, none⟩ = some (.int .u64 c.first) := H54.out.cell 4; have k5 : w4.cell? ⟨w.heap.size, 5, none⟩ = some (.int .u64 c.last) := H54.out.cell 5)
    | (go_at_call 28; (refine (rWhat_calls c HB.out p HP.out _).mono ?_); rintro e w5 ⟨rfl, hk⟩; rw [HX.out, HY.out, HZ.out]; have HK5 := Lib.hid (HK4.out.trans hk); clear hk))
  go_ret
  exact ⟨rfl, HK5.out⟩

theorem whats_walk (c : CfgD) (p : Int) (w : World) (hp : Int64 p) : Calls Try.prog 5 #[cfgV c, .int .i64 p] w (Good w) := by
  by_cases h : c.Ok
  · by_cases g : c.t ≤ 3 ∧ c.b ≤ 8 ∧ c.wr ≤ 9
    · exact whats_yes c h p hp g.1 g.2.1 g.2.2 w
    · exact whats_great c h p g w
  · exact whats_no c h p w
end Go.Proofs.Ytlpmgbimffmmkaa
